/-
  CipherBack's walk. No statement of the seat is proved here.
-/
import Derived.Test.YtjmdgmbkkkoamaaVKn
import Derived.Test.YtjmdgmbkkkoamaaVOpen
import Derived.Test.YtjmdgmbkkkoamaaKLs
namespace Go.Proofs.Ytjmdgmbkkkoamaa
open Go.RowKit

set_option maxRecDepth 8000 in
set_option maxHeartbeats 8000000 in
theorem cipherBack_walk (key : List Int) (aT : Option Addr) (lt ct : Nat) (tl : List (List Int)) (aR : Option Addr) (lr cr' : Nat) (rl : List Bool) (hk : Bn 32 key) (hfew : Few9 tl) (w : World) (ht : RdL w aT lt tl) (hr : Rb w aR lr rl) :
    Calls Try.prog 4 #[(.agg (List.map (Value.int .u8) key).toArray), .slice aT lt ct, .slice aR lr cr'] w fun e w' => e = .returned (.bool true) ∧ Below w.heap.size w w' := by
  have HT : Hid (RdL w aT lt tl) := ht
  have HR : Hid (Rb w aR lr rl) := hr
  have HF : Hid (Few9 tl) := hfew
  clear ht hr hfew
  have HK : Hid (Bn 32 key) := hk
  clear hk
  obtain ⟨_, _, hiK⟩ := bn32_cells HK.out
  go_enter Try.func4, Try.ntmps4
  go_upto_region 1 with fail
  have AK : Hid (Ar (w.alloc (.cells (List.map (Value.int .u8) key).toArray 31)) w.heap.size 32 (List.map (Value.int .u8) key)) := ar_box w _ 32 HK.out.map_len _
  have HB : Hid (Below w.heap.size w (w.alloc (.cells (List.map (Value.int .u8) key).toArray 31))) := bel1 _ _
  obtain ⟨W0, hW0⟩ : ∃ W, W = (w.alloc (.cells (List.map (Value.int .u8) key).toArray 31)) := ⟨_, rfl⟩
  obtain ⟨q3, hq3⟩ : ∃ q, q = w.heap.size := ⟨_, rfl⟩
  rw [← hW0] at AK HB ⊢
  rw [← hq3] at AK ⊢
  have kq0 : q3 < W0.heap.size := AK.out.lt (by decide)
  clear hW0 hq3
  go_wp2_with fail
  refine (new9_c _).mono ?_
  rintro e V1 ⟨rfl, Ha, hb⟩
  obtain ⟨ba, hq⟩ : ∃ q, q = W0.heap.size := ⟨_, rfl⟩
  rw [← hq] at Ha ⊢
  have kaw : w.heap.size ≤ ba := by rw [hq]; exact HB.out.size
  have kqa : q3 < ba := by rw [hq]; exact AK.out.lt (by decide)
  clear hq
  replace AK : Hid (Ar V1 q3 32 (List.map (Value.int .u8) key)) := AK.out.later hb
  replace HB : Hid (Below w.heap.size w V1) := HB.out.trans (hb.mono HB.out.size)
  clear hb
  go_wp2_with fail
  refine (new9_c _).mono ?_
  rintro e V2 ⟨rfl, Hb, hb⟩
  obtain ⟨bb, hq⟩ : ∃ q, q = V1.heap.size := ⟨_, rfl⟩
  rw [← hq] at Hb ⊢
  have kbw : w.heap.size ≤ bb := by rw [hq]; exact HB.out.size
  have kba : ba < bb := by rw [hq]; exact Ha.out.lt
  have kqb : q3 < bb := by rw [hq]; exact AK.out.lt (by decide)
  clear hq
  replace Ha : Hid (Sx V2 ba z9l false 0) := Ha.out.later hb
  replace AK : Hid (Ar V2 q3 32 (List.map (Value.int .u8) key)) := AK.out.later hb
  replace HB : Hid (Below w.heap.size w V2) := HB.out.trans (hb.mono HB.out.size)
  clear hb
  go_wp2_with fail
  refine (known9_any _).mono ?_
  rintro e V3 ⟨rfl, hb⟩
  replace Ha : Hid (Sx V3 ba z9l false 0) := Ha.out.later hb
  replace Hb : Hid (Sx V3 bb z9l false 0) := Hb.out.later hb
  replace AK : Hid (Ar V3 q3 32 (List.map (Value.int .u8) key)) := AK.out.later hb
  replace HB : Hid (Below w.heap.size w V3) := HB.out.trans (hb.mono HB.out.size)
  clear hb
  have nab : ba ≠ bb := by omega
  go_wp2_with (refine wpList_load_mid rfl 31 (.tmp 3) rfl q3 0 rfl (List.map (Value.int .u8) key) _ AK.out.rng Try.underlying31 rfl hiK ?_)
  refine (init9_c ba z9l false 0 key HK.out _ Ha.out).mono ?_
  rintro e V4 ⟨rfl, HS', hb⟩
  replace Ha := HS'
  clear HS'
  replace Hb : Hid (Sx V4 bb z9l false 0) := Hb.out.extb hb (by omega)
  replace AK : Hid (Ar V4 q3 32 (List.map (Value.int .u8) key)) := AK.out.extb hb (by omega)
  replace HB : Hid (Below w.heap.size w V4) := hb.below HB.out (by omega)
  clear hb
  go_wp2_with (refine wpList_load_mid rfl 31 (.tmp 3) rfl q3 0 rfl (List.map (Value.int .u8) key) _ AK.out.rng Try.underlying31 rfl hiK ?_)
  refine (init9_c bb z9l false 0 key HK.out _ Hb.out).mono ?_
  rintro e V5 ⟨rfl, HS', hb⟩
  replace Hb := HS'
  clear HS'
  replace Ha : Hid (Sx V5 ba key true 0) := Ha.out.extb hb (by omega)
  replace AK : Hid (Ar V5 q3 32 (List.map (Value.int .u8) key)) := AK.out.extb hb (by omega)
  replace HB : Hid (Below w.heap.size w V5) := hb.below HB.out (by omega)
  clear hb
  clear hiK AK
  go_wp2
  go_loopw [9] (fun iv wr => ∃ (k : Nat) (K : List Int) (m : Int), iv = .int .i64 k ∧ k ≤ 12 ∧ Hid (m = (k : Int)) ∧ Hid (Sx wr ba K true m) ∧ Hid (Sx wr bb K true m) ∧ Hid (Below w.heap.size w wr)) (fun iv _ => 12 - (intOf iv).toNat)
  case atStart => exact ⟨0, key, 0, rfl, by decide, rfl, Ha, Hb, HB⟩
  case round =>
    clear Ha Hb HB
    obtain ⟨k, K, m, rfl, hk12, HM, Ha, Hb, HB⟩ := hrel
    by_cases h1 : k < lt
    · have q1 : (k : Int) < lt := by omega
      by_cases h2 : k < 12
      · have q2 : (k : Int) < 12 := by omega
        obtain ⟨bT, oT, rfl, hcT⟩ := HT.out.cell (by omega)
        obtain ⟨ai, ni, ci, ct', hrd⟩ := hcT k h1
        obtain ⟨tx, htx⟩ : ∃ x, x = tl[k]?.getD [] := ⟨_, rfl⟩
        have hni : ni ≤ 140737488351232 := by have := HF.out k; rw [hrd.hlen] at this; exact this
        rw [← htx] at hrd
        have HRD : Hid (Rd w ai ni ci tx) := hrd
        clear hcT hrd htx
        go_upto_region 10 with fail
        go_cut [61] from 42 (fun v wx => v = .bool false ∧ ∃ K' : List Int, Hid (Sx wx ba K' true m) ∧ Hid (Sx wx bb K' true m) ∧ Hid (Below w.heap.size w wx))
        case first =>
          by_cases h3 : k < lr
          · have q3' : (k : Int) < lr := by omega
            obtain ⟨bR, oR, rfl, hcR⟩ := HR.out.cell (by omega)
            have cr := cell_later HB.out (hcR k h3)
            obtain ⟨rv, hrv⟩ : ∃ v, v = rl[k]?.getD false := ⟨_, rfl⟩
            rw [← hrv] at cr
            clear hrv hcR
            cases rv
            · go_wp2_with fail
              go_meet
              case rel => exact ⟨rfl, K, Ha, Hb, HB⟩
            · go_wp2_with fail
              refine (rekey9_yes ba K m _ Ha.out).mono ?_
              rintro e V31 ⟨K1, rfl, HKa, HS', hb⟩
              replace Ha := HS'
              clear HS'
              replace Hb : Hid (Sx V31 bb K true m) := Hb.out.extb hb (by omega)
              replace HB : Hid (Below w.heap.size w V31) := hb.below HB.out (by omega)
              clear hb
              go_wp2_with fail
              refine (rekey9_yes bb K m _ Hb.out).mono ?_
              rintro e V32 ⟨K2, rfl, HKb, HS', hb⟩
              replace Hb := HS'
              clear HS'
              replace Ha : Hid (Sx V32 ba K1 true m) := Ha.out.extb hb (by omega)
              replace HB : Hid (Below w.heap.size w V32) := hb.below HB.out (by omega)
              clear hb
              have hkk : K2 = K1 := by rw [HKb.out, HKa.out]
              subst hkk
              go_wp2_with fail
              go_meet
              case rel => exact ⟨rfl, _, Ha, Hb, HB⟩
          · have q3' : ¬ (k : Int) < lr := by omega
            go_wp2_with fail
            go_meet
            case rel => exact ⟨rfl, K, Ha, Hb, HB⟩
        case rest =>
          obtain ⟨rfl, K1, Ha', Hb', HB'⟩ := hcut
          clear Ha Hb HB
          obtain ⟨U, hU⟩ : ∃ U, U = wc := ⟨_, rfl⟩
          have Ha : Hid (Sx U ba K1 true m) := by rw [hU]; exact Ha'
          have Hb : Hid (Sx U bb K1 true m) := by rw [hU]; exact Hb'
          have HB : Hid (Below w.heap.size w U) := by rw [hU]; exact HB'
          rw [← hU]
          clear Ha' Hb' HB' hU
          obtain ⟨x, hx⟩ : ∃ x, x = (k : Int) := ⟨_, rfl⟩
          have hxb : Byt [x] := Byt.cons (by omega) (by omega) Byt.nil
          have hwx : IntKind.u8.wrap (k : Int) = x := by rw [IntKind.wrap_u8, hx]; omega
          clear hx
          have hmL : m ≠ 18446744073709551615 := by have := HM.out; omega
          have Rx : Hid (Rd (U.alloc (.cells #[.int .u8 x] 5)) (some ⟨U.heap.size, 0, none⟩) 1 1 [x]) := Rd.laid U [x] hxb _ 1 (Nat.le_refl 1) _ (fun i hi => by obtain rfl : i = 0 := Nat.lt_one_iff.1 hi; rfl)
          have hb := bel1 U (.cells #[.int .u8 x] 5)
          replace Ha : Hid (Sx (U.alloc (.cells #[.int .u8 x] 5)) ba K1 true m) := Ha.out.later hb
          replace Hb : Hid (Sx (U.alloc (.cells #[.int .u8 x] 5)) bb K1 true m) := Hb.out.later hb
          replace HB : Hid (Below w.heap.size w (U.alloc (.cells #[.int .u8 x] 5))) := HB.out.trans (hb.mono HB.out.size)
          clear hb
          have cx := cell_later HB.out ct'
          go_wp2_with fail
          refine (seal9_yes ba K1 m (some ⟨U.heap.size, 0, none⟩) 1 1 [x] ai ni ci tx _ Ha.out hmL Rx.out (HRD.out.below HB.out) (by decide) hni).mono ?_
          rintro e V41 ⟨gg, mg, Xg, n', rfl, hg, Hmg, HXg, HN', Og, HS', hb⟩
          have hnag : bb ≠ gg := by have := Hb.out.lt; omega
          replace Og : Hid (Rd V41 (some ⟨gg, 0, none⟩) mg mg Xg) := Og.out.rd
          replace Ha := HS'
          clear HS' Rx cx hg
          replace Hb : Hid (Sx V41 bb K1 true m) := Hb.out.extb hb (by omega)
          replace HB : Hid (Below w.heap.size w V41) := hb.below HB.out (by omega)
          clear hb
          have Rx : Hid (Rd (V41.alloc (.cells #[.int .u8 x] 5)) (some ⟨V41.heap.size, 0, none⟩) 1 1 [x]) := Rd.laid V41 [x] hxb _ 1 (Nat.le_refl 1) _ (fun i hi => by obtain rfl : i = 0 := Nat.lt_one_iff.1 hi; rfl)
          have hb := bel1 V41 (.cells #[.int .u8 x] 5)
          replace Ha : Hid (Sx (V41.alloc (.cells #[.int .u8 x] 5)) ba K1 true n') := Ha.out.later hb
          replace Hb : Hid (Sx (V41.alloc (.cells #[.int .u8 x] 5)) bb K1 true m) := Hb.out.later hb
          replace Og : Hid (Rd (V41.alloc (.cells #[.int .u8 x] 5)) (some ⟨gg, 0, none⟩) mg mg Xg) := Og.out.below hb
          replace HB : Hid (Below w.heap.size w (V41.alloc (.cells #[.int .u8 x] 5))) := HB.out.trans (hb.mono HB.out.size)
          clear hb
          go_wp2_with fail
          refine (open9_yes bb K1 m (some ⟨V41.heap.size, 0, none⟩) 1 1 [x] (some ⟨gg, 0, none⟩) mg mg Xg _ Hb.out hmL Rx.out Og.out (by decide) (by have := Hmg.out; omega)).mono ?_
          rintro e V42 ⟨aY, mY, cY, XY, EY, n2, rfl, HEY, HXY, HN2, RY, HS', hb⟩
          have e0 : EY = 0 := by rw [HEY.out, HXg.out, er6_back]
          subst e0
          have e1 : XY = tx := by rw [HXY.out, HXg.out, op6_back _ _ _ HRD.out.byt]
          subst e1
          have e2 : n2 = n' := by rw [HN2.out, if_pos rfl, HN'.out]
          subst e2
          replace Hb := HS'
          clear HS' Rx Og HEY HXY HXg HN2 Hmg
          replace Ha : Hid (Sx V42 ba K1 true n2) := Ha.out.extb hb (by omega)
          replace HB : Hid (Below w.heap.size w V42) := hb.below HB.out (by omega)
          clear hb
          have hw2 : IntKind.u64.wrap ((k : Int) + 1) = n2 := by rw [IntKind.wrap_u64, HN'.out, HM.out]; omega
          have hw1 : IntKind.u64.wrap (k : Int) = (k : Int) := by rw [IntKind.wrap_u64]; omega
          have hKn := Ha.out.bk
          have cx := cell_later HB.out ct'
          go_upto_region 14 with fail
          refine wp_region_noPanic ?_
          refine wp_region_held_drew (S := Ext V42) (by kernel_rfl) (Ext.refl _).drew (fun hH => ?_)
          change wpAnyH _ _ _ _ _ _ #[false, false, false, false, false, false, false, false, false, false, false, false, false, false, false, false, false, false, false, false, false, false, false, false, false, false, false, false, false, false, false, false, false, false, false, false, false, false, false] _ _
          have hcx : ∀ u, Ext V42 u → u.cell? ⟨bT, oT + k, none⟩ = some (.slice ai ni ci) := fun u hu => hu.cell cx
          have s1 : ∀ u, Ext V42 u → (convert 25 9 (.slice aY mY cY)).run Try.prog u = .ok (.string (strOfNums XY)) u := fun u hu => str_of (RY.out.below hu)
          have s2 : ∀ u, Ext V42 u → (convert 25 9 (.slice ai ni ci)).run Try.prog u = .ok (.string (strOfNums XY)) u := fun u hu => str_of ((HRD.out.below HB.out).below hu)
          refine wpAnyH_take (i := 0) (oi := ?o0f) (v := ?v0f) ?h0f (by kernel_rfl) ?f0f ?r0f (fun _ _ _ h => h) (Or.inl ⟨?w0f, ?y0f⟩) (by assumption) ?t0f
          case h0f => simp only [List.getElem?_toArray]; rfl
          case f0f => kernel_rfl
          case r0f => kernel_rfl
          case w0f => rfl
          case y0f => (intro u hu; (go_simp) <;> with_reducible rfl)
          try simp only [Act.put, List.setIfInBounds_toArray, List.set_cons_zero, List.set_cons_succ]
          refine wpAnyH_take (i := 1) (oi := ?o1f) (v := ?v1f) ?h1f (by kernel_rfl) ?f1f ?r1f (fun _ _ _ h => h) (Or.inl ⟨?w1f, ?y1f⟩) (by assumption) ?t1f
          case h1f => simp only [List.getElem?_toArray]; rfl
          case f1f => kernel_rfl
          case r1f => kernel_rfl
          case w1f => rfl
          case y1f => (intro u hu; (go_simp) <;> with_reducible rfl)
          try simp only [Act.put, List.setIfInBounds_toArray, List.set_cons_zero, List.set_cons_succ]
          refine wpAnyH_take (i := 2) (oi := ?o2f) (v := ?v2f) ?h2f (by kernel_rfl) ?f2f ?r2f (fun _ _ _ h => h) (Or.inl ⟨?w2f, ?y2f⟩) (by assumption) ?t2f
          case h2f => simp only [List.getElem?_toArray]; rfl
          case f2f => kernel_rfl
          case r2f => kernel_rfl
          case w2f => rfl
          case y2f => (intro u hu; (go_simp) <;> with_reducible rfl)
          try simp only [Act.put, List.setIfInBounds_toArray, List.set_cons_zero, List.set_cons_succ]
          refine wpAnyH_take (i := 3) (oi := ?o3f) (v := ?v3f) ?h3f (by kernel_rfl) ?f3f ?r3f (fun _ _ _ h => h) (Or.inl ⟨?w3f, ?y3f⟩) (by assumption) ?t3f
          case h3f => simp only [List.getElem?_toArray]; rfl
          case f3f => kernel_rfl
          case r3f => kernel_rfl
          case w3f => rfl
          case y3f => (intro u hu; (go_simp) <;> with_reducible rfl)
          try simp only [Act.put, List.setIfInBounds_toArray, List.set_cons_zero, List.set_cons_succ]
          refine wpAnyH_take (i := 4) (oi := ?o4f) (v := ?v4f) ?h4f (by kernel_rfl) ?f4f ?r4f (fun _ _ _ h => h) (Or.inl ⟨?w4f, ?y4f⟩) (by assumption) ?t4f
          case h4f => simp only [List.getElem?_toArray]; rfl
          case f4f => kernel_rfl
          case r4f => kernel_rfl
          case w4f => rfl
          case y4f => (intro u hu; (go_simp) <;> with_reducible rfl)
          try simp only [Act.put, List.setIfInBounds_toArray, List.set_cons_zero, List.set_cons_succ]
          refine wpAnyH_take (i := 5) (oi := ?o5f) (v := ?v5f) ?h5f (by kernel_rfl) ?f5f ?r5f (fun _ _ _ h => h) (Or.inl ⟨?w5f, ?y5f⟩) (by assumption) ?t5f
          case h5f => simp only [List.getElem?_toArray]; rfl
          case f5f => kernel_rfl
          case r5f => kernel_rfl
          case w5f => rfl
          case y5f => (intro u hu; (go_simp) <;> with_reducible rfl)
          try simp only [Act.put, List.setIfInBounds_toArray, List.set_cons_zero, List.set_cons_succ]
          refine wpAnyH_take (i := 6) (oi := ?o6f) (v := ?v6f) ?h6f (by kernel_rfl) ?f6f ?r6f (fun _ _ _ h => h) (Or.inl ⟨?w6f, ?y6f⟩) (by assumption) ?t6f
          case h6f => simp only [List.getElem?_toArray]; rfl
          case f6f => kernel_rfl
          case r6f => kernel_rfl
          case w6f => rfl
          case y6f => (intro u hu; (go_simp) <;> with_reducible rfl)
          try simp only [Act.put, List.setIfInBounds_toArray, List.set_cons_zero, List.set_cons_succ]
          refine wpAnyH_take (i := 7) (oi := ?o7f) (v := ?v7f) ?h7f (by kernel_rfl) ?f7f ?r7f (fun _ _ _ h => h) (Or.inl ⟨?w7f, ?y7f⟩) (by assumption) ?t7f
          case h7f => simp only [List.getElem?_toArray]; rfl
          case f7f => kernel_rfl
          case r7f => kernel_rfl
          case w7f => rfl
          case y7f => (intro u hu; (go_simp) <;> with_reducible rfl)
          try simp only [Act.put, List.setIfInBounds_toArray, List.set_cons_zero, List.set_cons_succ]
          refine wpAnyH_take (i := 8) (oi := ?o8f) (v := ?v8f) ?h8f (by kernel_rfl) ?f8f ?r8f (fun _ _ _ h => h) (Or.inl ⟨?w8f, ?y8f⟩) (by assumption) ?t8f
          case h8f => simp only [List.getElem?_toArray]; rfl
          case f8f => kernel_rfl
          case r8f => kernel_rfl
          case w8f => rfl
          case y8f => (intro u hu; (go_simp) <;> with_reducible rfl)
          try simp only [Act.put, List.setIfInBounds_toArray, List.set_cons_zero, List.set_cons_succ]
          refine wpAnyH_take (i := 9) (oi := ?o9f) (v := ?v9f) ?h9f (by kernel_rfl) ?f9f ?r9f (fun _ _ _ h => h) (Or.inl ⟨?w9f, ?y9f⟩) (by assumption) ?t9f
          case h9f => simp only [List.getElem?_toArray]; rfl
          case f9f => kernel_rfl
          case r9f => kernel_rfl
          case w9f => rfl
          case y9f => (intro u hu; (go_simp) <;> with_reducible rfl)
          try simp only [Act.put, List.setIfInBounds_toArray, List.set_cons_zero, List.set_cons_succ]
          refine wpAnyH_take (i := 10) (oi := ?o10f) (v := ?v10f) ?h10f (by kernel_rfl) ?f10f ?r10f (fun _ _ _ h => h) (Or.inl ⟨?w10f, ?y10f⟩) (by assumption) ?t10f
          case h10f => simp only [List.getElem?_toArray]; rfl
          case f10f => kernel_rfl
          case r10f => kernel_rfl
          case w10f => rfl
          case y10f => (intro u hu; (go_simp) <;> with_reducible rfl)
          try simp only [Act.put, List.setIfInBounds_toArray, List.set_cons_zero, List.set_cons_succ]
          refine wpAnyH_take (i := 11) (oi := ?o11f) (v := ?v11f) ?h11f (by kernel_rfl) ?f11f ?r11f (fun _ _ _ h => h) (Or.inl ⟨?w11f, ?y11f⟩) (by assumption) ?t11f
          case h11f => simp only [List.getElem?_toArray]; rfl
          case f11f => kernel_rfl
          case r11f => kernel_rfl
          case w11f => rfl
          case y11f => (intro u hu; (go_simp) <;> with_reducible rfl)
          try simp only [Act.put, List.setIfInBounds_toArray, List.set_cons_zero, List.set_cons_succ]
          refine wpAnyH_take (i := 12) (oi := ?o12f) (v := ?v12f) ?h12f (by kernel_rfl) ?f12f ?r12f (fun _ _ _ h => h) (Or.inl ⟨?w12f, ?y12f⟩) (by assumption) ?t12f
          case h12f => simp only [List.getElem?_toArray]; rfl
          case f12f => kernel_rfl
          case r12f => kernel_rfl
          case w12f => rfl
          case y12f => (intro u hu; (have hx := hcx u hu; go_simp) <;> with_reducible rfl)
          try simp only [Act.put, List.setIfInBounds_toArray, List.set_cons_zero, List.set_cons_succ]
          refine wpAnyH_take (i := 13) (oi := ?o13f) (v := ?v13f) ?h13f (by kernel_rfl) ?f13f ?r13f (fun _ _ _ h => h) (Or.inl ⟨?w13f, ?y13f⟩) (by assumption) ?t13f
          case h13f => simp only [List.getElem?_toArray]; rfl
          case f13f => kernel_rfl
          case r13f => kernel_rfl
          case w13f => rfl
          case y13f => (intro u hu; (go_simp) <;> with_reducible rfl)
          try simp only [Act.put, List.setIfInBounds_toArray, List.set_cons_zero, List.set_cons_succ]
          refine wpAnyH_take (i := 14) (oi := ?o14f) (v := ?v14f) ?h14f (by kernel_rfl) ?f14f ?r14f (fun _ _ _ h => h) (Or.inl ⟨?w14f, ?y14f⟩) (by assumption) ?t14f
          case h14f => simp only [List.getElem?_toArray]; rfl
          case f14f => kernel_rfl
          case r14f => kernel_rfl
          case w14f => rfl
          case y14f => (intro u hu; (go_simp) <;> with_reducible rfl)
          try simp only [Act.put, List.setIfInBounds_toArray, List.set_cons_zero, List.set_cons_succ]
          refine wpAnyH_take (i := 15) (oi := ?o15f) (v := ?v15f) ?h15f (by kernel_rfl) ?f15f ?r15f (fun _ _ _ h => h) (Or.inl ⟨?w15f, ?y15f⟩) (by assumption) ?t15f
          case h15f => simp only [List.getElem?_toArray]; rfl
          case f15f => kernel_rfl
          case r15f => kernel_rfl
          case w15f => rfl
          case y15f => (intro u hu; (go_simp) <;> with_reducible rfl)
          try simp only [Act.put, List.setIfInBounds_toArray, List.set_cons_zero, List.set_cons_succ]
          refine wpAnyH_take (i := 16) (oi := ?o16f) (v := ?v16f) ?h16f (by kernel_rfl) ?f16f ?r16f (fun _ _ _ h => h) (Or.inl ⟨?w16f, ?y16f⟩) (by assumption) ?t16f
          case h16f => simp only [List.getElem?_toArray]; rfl
          case f16f => kernel_rfl
          case r16f => kernel_rfl
          case w16f => rfl
          case y16f => (intro u hu; (go_simp) <;> with_reducible rfl)
          try simp only [Act.put, List.setIfInBounds_toArray, List.set_cons_zero, List.set_cons_succ]
          refine wpAnyH_take (i := 17) (oi := ?o17f) (v := ?v17f) ?h17f (by kernel_rfl) ?f17f ?r17f (fun _ _ _ h => h) (Or.inl ⟨?w17f, ?y17f⟩) (by assumption) ?t17f
          case h17f => simp only [List.getElem?_toArray]; rfl
          case f17f => kernel_rfl
          case r17f => kernel_rfl
          case w17f => rfl
          case y17f => (intro u hu; (go_simp) <;> with_reducible rfl)
          try simp only [Act.put, List.setIfInBounds_toArray, List.set_cons_zero, List.set_cons_succ]
          clear s1 s2
          refine wpAnyH_take (i := 19) (oi := ?o19f) (v := ?v19f) ?h19f (by kernel_rfl) ?f19f ?r19f (fun _ _ _ h => h) (Or.inl ⟨?w19f, ?y19f⟩) (by assumption) ?t19f
          case h19f => simp only [List.getElem?_toArray]; rfl
          case f19f => kernel_rfl
          case r19f => kernel_rfl
          case w19f => rfl
          case y19f => (intro u hu; (go_simp) <;> with_reducible rfl)
          try simp only [Act.put, List.setIfInBounds_toArray, List.set_cons_zero, List.set_cons_succ]
          refine wpAnyH_take (i := 20) (oi := ?o20f) (v := ?v20f) ?h20f (by kernel_rfl) ?f20f ?r20f (fun _ _ _ h => h) (Or.inl ⟨?w20f, ?y20f⟩) (by assumption) ?t20f
          case h20f => simp only [List.getElem?_toArray]; rfl
          case f20f => kernel_rfl
          case r20f => kernel_rfl
          case w20f => rfl
          case y20f => (intro u hu; (go_simp) <;> with_reducible rfl)
          try simp only [Act.put, List.setIfInBounds_toArray, List.set_cons_zero, List.set_cons_succ]
          refine wpAnyH_take (i := 21) (oi := ?o21f) (v := ?v21f) ?h21f (by kernel_rfl) ?f21f ?r21f (fun _ _ _ h => h) (Or.inl ⟨?w21f, ?y21f⟩) (by assumption) ?t21f
          case h21f => simp only [List.getElem?_toArray]; rfl
          case f21f => kernel_rfl
          case r21f => kernel_rfl
          case w21f => rfl
          case y21f => (intro u hu; (go_simp) <;> with_reducible rfl)
          try simp only [Act.put, List.setIfInBounds_toArray, List.set_cons_zero, List.set_cons_succ]
          refine wpAnyH_ready (rs := [18]) (by kernel_rfl) (by simp) ?_
          refine AllReadyH.cons (o := ?o18f) ?h18f (fun K hK => ?_) AllReadyH.nil
          case h18f => simp only [List.getElem?_toArray]; rfl
          go_simp
          refine (nonce9_c ba K1 true n2 _ (Ha.out.later hH)).mono ?_
          rintro e V60 ⟨rfl, hw⟩
          rw [hw]
          clear hw V60
          refine hK.out _ _ hH (fun hH' => ?_)
          clear hK K hH
          have hH := hH'
          clear hH'
          try simp only [List.setIfInBounds_toArray, List.set]
          refine wpAnyH_take (i := 22) (oi := ?o22f) (v := ?v22f) ?h22f (by kernel_rfl) ?f22f ?r22f (fun _ _ _ h => h) (Or.inl ⟨?w22f, ?y22f⟩) (by assumption) ?t22f
          case h22f => simp only [List.getElem?_toArray]; rfl
          case f22f => kernel_rfl
          case r22f => kernel_rfl
          case w22f => rfl
          case y22f => (intro u hu; (go_simp) <;> with_reducible rfl)
          try simp only [Act.put, List.setIfInBounds_toArray, List.set_cons_zero, List.set_cons_succ]
          refine wpAnyH_take (i := 23) (oi := ?o23f) (v := ?v23f) ?h23f (by kernel_rfl) ?f23f ?r23f (fun _ _ _ h => h) (Or.inl ⟨?w23f, ?y23f⟩) (by assumption) ?t23f
          case h23f => simp only [List.getElem?_toArray]; rfl
          case f23f => kernel_rfl
          case r23f => kernel_rfl
          case w23f => rfl
          case y23f => (intro u hu; (go_simp) <;> with_reducible rfl)
          try simp only [Act.put, List.setIfInBounds_toArray, List.set_cons_zero, List.set_cons_succ]
          refine wpAnyH_take (i := 24) (oi := ?o24f) (v := ?v24f) ?h24f (by kernel_rfl) ?f24f ?r24f (fun _ _ _ h => h) (Or.inl ⟨?w24f, ?y24f⟩) (by assumption) ?t24f
          case h24f => simp only [List.getElem?_toArray]; rfl
          case f24f => kernel_rfl
          case r24f => kernel_rfl
          case w24f => rfl
          case y24f => (intro u hu; (go_simp) <;> with_reducible rfl)
          try simp only [Act.put, List.setIfInBounds_toArray, List.set_cons_zero, List.set_cons_succ]
          refine wpAnyH_take (i := 25) (oi := ?o25f) (v := ?v25f) ?h25f (by kernel_rfl) ?f25f ?r25f (fun _ _ _ h => h) (Or.inl ⟨?w25f, ?y25f⟩) (by assumption) ?t25f
          case h25f => simp only [List.getElem?_toArray]; rfl
          case f25f => kernel_rfl
          case r25f => kernel_rfl
          case w25f => rfl
          case y25f => (intro u hu; (go_simp) <;> with_reducible rfl)
          try simp only [Act.put, List.setIfInBounds_toArray, List.set_cons_zero, List.set_cons_succ]
          refine wpAnyH_take (i := 27) (oi := ?o27f) (v := ?v27f) ?h27f (by kernel_rfl) ?f27f ?r27f (fun _ _ _ h => h) (Or.inl ⟨?w27f, ?y27f⟩) (by assumption) ?t27f
          case h27f => simp only [List.getElem?_toArray]; rfl
          case f27f => kernel_rfl
          case r27f => kernel_rfl
          case w27f => rfl
          case y27f => (intro u hu; (go_simp) <;> with_reducible rfl)
          try simp only [Act.put, List.setIfInBounds_toArray, List.set_cons_zero, List.set_cons_succ]
          refine wpAnyH_take (i := 28) (oi := ?o28f) (v := ?v28f) ?h28f (by kernel_rfl) ?f28f ?r28f (fun _ _ _ h => h) (Or.inl ⟨?w28f, ?y28f⟩) (by assumption) ?t28f
          case h28f => simp only [List.getElem?_toArray]; rfl
          case f28f => kernel_rfl
          case r28f => kernel_rfl
          case w28f => rfl
          case y28f => (intro u hu; (go_simp) <;> with_reducible rfl)
          try simp only [Act.put, List.setIfInBounds_toArray, List.set_cons_zero, List.set_cons_succ]
          refine wpAnyH_take (i := 29) (oi := ?o29f) (v := ?v29f) ?h29f (by kernel_rfl) ?f29f ?r29f (fun _ _ _ h => h) (Or.inl ⟨?w29f, ?y29f⟩) (by assumption) ?t29f
          case h29f => simp only [List.getElem?_toArray]; rfl
          case f29f => kernel_rfl
          case r29f => kernel_rfl
          case w29f => rfl
          case y29f => (intro u hu; (go_simp) <;> with_reducible rfl)
          try simp only [Act.put, List.setIfInBounds_toArray, List.set_cons_zero, List.set_cons_succ]
          refine wpAnyH_ready (rs := [26]) (by kernel_rfl) (by simp) ?_
          refine AllReadyH.cons (o := ?o26f) ?h26f (fun K hK => ?_) AllReadyH.nil
          case h26f => simp only [List.getElem?_toArray]; rfl
          go_simp
          refine (nonce9_c bb K1 true n2 _ (Hb.out.later hH)).mono ?_
          rintro e V61 ⟨rfl, hw⟩
          rw [hw]
          clear hw V61
          refine hK.out _ _ hH (fun hH' => ?_)
          clear hK K hH
          have hH := hH'
          clear hH'
          try simp only [List.setIfInBounds_toArray, List.set]
          refine wpAnyH_take (i := 30) (oi := ?o30f) (v := ?v30f) ?h30f (by kernel_rfl) ?f30f ?r30f (fun _ _ _ h => h) (Or.inl ⟨?w30f, ?y30f⟩) (by assumption) ?t30f
          case h30f => simp only [List.getElem?_toArray]; rfl
          case f30f => kernel_rfl
          case r30f => kernel_rfl
          case w30f => rfl
          case y30f => (intro u hu; (go_simp) <;> with_reducible rfl)
          try simp only [Act.put, List.setIfInBounds_toArray, List.set_cons_zero, List.set_cons_succ]
          refine wpAnyH_take (i := 31) (oi := ?o31f) (v := ?v31f) ?h31f (by kernel_rfl) ?f31f ?r31f (fun _ _ _ h => h) (Or.inl ⟨?w31f, ?y31f⟩) (by assumption) ?t31f
          case h31f => simp only [List.getElem?_toArray]; rfl
          case f31f => kernel_rfl
          case r31f => kernel_rfl
          case w31f => rfl
          case y31f => (intro u hu; (go_simp) <;> with_reducible rfl)
          try simp only [Act.put, List.setIfInBounds_toArray, List.set_cons_zero, List.set_cons_succ]
          refine wpAnyH_take (i := 32) (oi := ?o32f) (v := ?v32f) ?h32f (by kernel_rfl) ?f32f ?r32f (fun _ _ _ h => h) (Or.inl ⟨?w32f, ?y32f⟩) (by assumption) ?t32f
          case h32f => simp only [List.getElem?_toArray]; rfl
          case f32f => kernel_rfl
          case r32f => kernel_rfl
          case w32f => rfl
          case y32f => (intro u hu; (go_simp) <;> with_reducible rfl)
          try simp only [Act.put, List.setIfInBounds_toArray, List.set_cons_zero, List.set_cons_succ]
          refine wpAnyH_take (i := 33) (oi := ?o33f) (v := ?v33f) ?h33f (by kernel_rfl) ?f33f ?r33f (fun _ _ _ h => h) (Or.inl ⟨?w33f, ?y33f⟩) (by assumption) ?t33f
          case h33f => simp only [List.getElem?_toArray]; rfl
          case f33f => kernel_rfl
          case r33f => kernel_rfl
          case w33f => rfl
          case y33f => (intro u hu; (go_simp) <;> with_reducible rfl)
          try simp only [Act.put, List.setIfInBounds_toArray, List.set_cons_zero, List.set_cons_succ]
          refine wpAnyH_take (i := 35) (oi := ?o35f) (v := ?v35f) ?h35f (by kernel_rfl) ?f35f ?r35f (fun _ _ _ h => h) (Or.inl ⟨?w35f, ?y35f⟩) (by assumption) ?t35f
          case h35f => simp only [List.getElem?_toArray]; rfl
          case f35f => kernel_rfl
          case r35f => kernel_rfl
          case w35f => rfl
          case y35f => (intro u hu; (go_simp) <;> with_reducible rfl)
          try simp only [Act.put, List.setIfInBounds_toArray, List.set_cons_zero, List.set_cons_succ]
          refine wpAnyH_ready (rs := [34]) (by kernel_rfl) (by simp) ?_
          refine AllReadyH.cons (o := ?o34f) ?h34f (fun K hK => ?_) AllReadyH.nil
          case h34f => simp only [List.getElem?_toArray]; rfl
          go_simp
          refine (key9_c ba K1 true n2 _ (Ha.out.later hH)).mono ?_
          rintro e V62 ⟨rfl, hb⟩
          refine hK.out _ _ (hH.trans hb) (fun hH' => ?_)
          clear hK K hH
          have hH := hH'
          clear hH'
          try simp only [List.setIfInBounds_toArray, List.set]
          clear hb
          refine wpAnyH_ready (rs := [36]) (by kernel_rfl) (by simp) ?_
          refine AllReadyH.cons (o := ?o36f) ?h36f (fun K hK => ?_) AllReadyH.nil
          case h36f => simp only [List.getElem?_toArray]; rfl
          go_simp
          refine (key9_c bb K1 true n2 _ (Hb.out.later hH)).mono ?_
          rintro e V63 ⟨rfl, hb⟩
          refine hK.out _ _ (hH.trans hb) (fun hH' => ?_)
          clear hK K hH
          have hH := hH'
          clear hH'
          try simp only [List.setIfInBounds_toArray, List.set]
          clear hb
          have hne : ∀ u, Sem.run Try.prog (binOp .neq 31 (.agg (List.map (Value.int .u8) K1).toArray) (.agg (List.map (Value.int .u8) K1).toArray)) u = .ok (.bool false) u := fun u => neq32 K1 K1 hKn rfl u
          refine wpAnyH_take (i := 37) (oi := ?o37f) (v := ?v37f) ?h37f (by kernel_rfl) ?f37f ?r37f (fun _ _ _ h => h) (Or.inl ⟨?w37f, ?y37f⟩) (by assumption) ?t37f
          case h37f => simp only [List.getElem?_toArray]; rfl
          case f37f => kernel_rfl
          case r37f => kernel_rfl
          case w37f => rfl
          case y37f => (intro u hu; (go_simp) <;> with_reducible rfl)
          try simp only [Act.put, List.setIfInBounds_toArray, List.set_cons_zero, List.set_cons_succ]
          refine wpAnyH_take (i := 38) (oi := ?o38f) (v := ?v38f) ?h38f (by kernel_rfl) ?f38f ?r38f (fun _ _ _ h => h) (Or.inl ⟨?w38f, ?y38f⟩) (by assumption) ?t38f
          case h38f => simp only [List.getElem?_toArray]; rfl
          case f38f => kernel_rfl
          case r38f => kernel_rfl
          case w38f => rfl
          case y38f => (intro u hu; (go_simp) <;> with_reducible rfl)
          try simp only [Act.put, List.setIfInBounds_toArray, List.set_cons_zero, List.set_cons_succ]
          refine wpAnyH_done (by kernel_rfl) ?_ _
          refine NoPanic.normal ?_
          replace hH := hH
          have hb2 : Below V42.heap.size V42 _ := hH
          replace Ha := Ha.out.later hb2
          replace Hb := Hb.out.later hb2
          replace HB : Hid (Below w.heap.size w _) := HB.out.trans (hb2.mono HB.out.size)
          clear hb2 hH hcx cx hne hw1 hw2
          go_wp2
          go_roundw
          case rel => exact ⟨k + 1, K1, n2, by go_num, by omega, by have := HN'.out; have := HM.out; unfold Hid; omega, Ha, Hb, HB⟩
          case measure => simp [intOf]; omega
      · have q2 : ¬ (k : Int) < 12 := by omega
        go_wp2
        go_ret
        exact ⟨rfl, HB.out⟩
    · have q1 : ¬ (k : Int) < lt := by omega
      go_wp2
      go_ret
      exact ⟨rfl, HB.out⟩
end Go.Proofs.Ytjmdgmbkkkoamaa
