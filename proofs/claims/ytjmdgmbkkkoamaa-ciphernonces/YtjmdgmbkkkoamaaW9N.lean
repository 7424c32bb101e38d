/-
  CipherNonces' walk. No statement of the seat is proved here.
-/
import Derived.Test.YtjmdgmbkkkoamaaVKn
namespace Go.Proofs.Ytjmdgmbkkkoamaa
open Go.RowKit

set_option maxRecDepth 8000 in
set_option maxHeartbeats 8000000 in
theorem cipherNonces_walk (key : List Int) (back n : Int) (hk : Bn 32 key) (hb' : 0 ≤ back ∧ back ≤ 18446744073709551615) (hn : -9223372036854775808 ≤ n ∧ n ≤ 9223372036854775807) (w : World) :
    Calls Try.prog 5 #[(.agg (List.map (Value.int .u8) key).toArray), .int .u64 back, .int .i64 n] w fun e w' => e = .returned (.bool true) ∧ Below w.heap.size w w' := by
  have hb0 := hb'.1
  obtain ⟨r, hr⟩ : ∃ r, r = back.tmod 9 := ⟨_, rfl⟩
  have hr1 : back.tmod 9 = r := hr.symm
  have hr2 : 0 ≤ r ∧ r < 9 := by rw [hr, Int.tmod_eq_emod_of_nonneg hb0]; omega
  clear hr
  obtain ⟨m0, hm0⟩ : ∃ m, m = 18446744073709551615 - r := ⟨_, rfl⟩
  have hm1 : 0 ≤ m0 ∧ m0 ≤ 18446744073709551615 := by omega
  have hw0 : IntKind.u64.wrap (18446744073709551615 - r) = m0 := by rw [IntKind.wrap_u64, hm0]; omega
  clear hm0 hr2
  clear hb' hb0
  have HK : Hid (Bn 32 key) := hk
  clear hk
  obtain ⟨_, _, hiK⟩ := bn32_cells HK.out
  go_enter Try.func5, Try.ntmps5
  go_upto_region 1 with fail
  have AK : Hid (Ar (w.alloc (.cells (List.map (Value.int .u8) key).toArray 31)) w.heap.size 32 (List.map (Value.int .u8) key)) := ar_box w _ 32 HK.out.map_len _
  have HB : Hid (Below w.heap.size w (w.alloc (.cells (List.map (Value.int .u8) key).toArray 31))) := bel1 _ _
  obtain ⟨W0, hW0⟩ : ∃ W, W = (w.alloc (.cells (List.map (Value.int .u8) key).toArray 31)) := ⟨_, rfl⟩
  obtain ⟨q3, hq3⟩ : ∃ q, q = w.heap.size := ⟨_, rfl⟩
  rw [← hW0] at AK HB ⊢
  rw [← hq3] at AK ⊢
  have kq0 : q3 < W0.heap.size := AK.out.lt (by decide)
  clear hW0 hq3
  go_wp2_with fail
  refine (new9_c _).mono ?_
  rintro e V1 ⟨rfl, Ha, hb⟩
  obtain ⟨ba, hq⟩ : ∃ q, q = W0.heap.size := ⟨_, rfl⟩
  rw [← hq] at Ha ⊢
  have kaw : w.heap.size ≤ ba := by rw [hq]; exact HB.out.size
  have kqa : q3 < ba := by rw [hq]; exact AK.out.lt (by decide)
  clear hq
  replace AK : Hid (Ar V1 q3 32 (List.map (Value.int .u8) key)) := AK.out.later hb
  replace HB : Hid (Below w.heap.size w V1) := HB.out.trans (hb.mono HB.out.size)
  clear hb
  go_wp2_with fail
  refine (known9_any _).mono ?_
  rintro e V2 ⟨rfl, hb⟩
  replace Ha : Hid (Sx V2 ba z9l false 0) := Ha.out.later hb
  replace AK : Hid (Ar V2 q3 32 (List.map (Value.int .u8) key)) := AK.out.later hb
  replace HB : Hid (Below w.heap.size w V2) := HB.out.trans (hb.mono HB.out.size)
  clear hb
  go_wp2_with (refine wpList_load_mid rfl 31 (.tmp 3) rfl q3 0 rfl (List.map (Value.int .u8) key) _ AK.out.rng Try.underlying31 rfl hiK ?_)
  refine (init9_c ba z9l false 0 key HK.out _ Ha.out).mono ?_
  rintro e V3 ⟨rfl, HS', hb⟩
  replace Ha := HS'
  clear HS'
  replace AK : Hid (Ar V3 q3 32 (List.map (Value.int .u8) key)) := AK.out.extb hb (by omega)
  replace HB : Hid (Below w.heap.size w V3) := hb.below HB.out (by omega)
  clear hb
  clear hiK
  go_wp2_with fail
  refine (setn9_c ba key true 0 m0 ⟨hm1.1, by omega⟩ _ Ha.out).mono ?_
  rintro e V4 ⟨rfl, HS', hb⟩
  replace Ha := HS'
  clear HS'
  replace AK : Hid (Ar V4 q3 32 (List.map (Value.int .u8) key)) := AK.out.extb hb (by omega)
  replace HB : Hid (Below w.heap.size w V4) := hb.below HB.out (by omega)
  clear hb
  go_wp2
  go_loopw [8, 9] (fun at' iv wr => ∃ (k : Nat) (m : Int), iv = .int .i64 k ∧ k ≤ 12 ∧ at' = .int .u64 m ∧ m ≤ 18446744073709551615 ∧ Hid (Sx wr ba key true m) ∧ Hid (Ar wr q3 32 (List.map (Value.int .u8) key)) ∧ Hid (Below w.heap.size w wr)) (fun _ iv _ => 12 - (intOf iv).toNat)
  case atStart => exact ⟨0, m0, rfl, by decide, rfl, by omega, Ha, AK, HB⟩
  case round =>
    clear Ha AK HB
    obtain ⟨k, m, rfl, hk12, rfl, hmL, Ha, AK, HB⟩ := hrel
    have HMM : Hid (0 ≤ m ∧ m < 18446744073709551616) := Ha.out.wn
    obtain ⟨_, _, hiK⟩ := bn32_cells HK.out
    go_wp2_with fail
    refine (pick_any n 12 hn (by decide) _).mono ?_
    rintro e V20 ⟨p, rfl, p0, p1, hw⟩
    rw [hw]
    clear hw V20
    by_cases hlt : (k : Int) < p
    · have hLt : Lt (wr.alloc (.cells #[.int .u8 116] 5)) wr.heap.size [116] := lt_new wr [116]
      have hcvt := conv_mark (wr.alloc (.cells #[.int .u8 116] 5)) wr.heap.size [116] 1 1 hLt
      simp only [List.length_cons, List.length_nil, Nat.zero_add] at hcvt
      have hY : Below wr.heap.size wr ((wr.alloc (.cells #[.int .u8 116] 5)).freeze ⟨wr.heap.size, 1, none⟩ 1) := ext_frz (bel1 _ _) _ _ (Nat.le_refl _)
      have Rt : Hid (Rd ((wr.alloc (.cells #[.int .u8 116] 5)).freeze ⟨wr.heap.size, 1, none⟩ 1) (some ⟨wr.heap.size, 0, none⟩) 1 1 [116]) := (hLt.rd (byt5 _ (by decide)) 1 (by decide)).frz _ _
      have hZ : Below wr.heap.size wr ((wr.alloc (.cells #[.int .u8 116] 5)).freeze ⟨wr.heap.size, 1, none⟩ 1) := hY
      clear hY
      have hZ0 := hZ
      clear hZ
      have hb := hZ0
      clear hZ0
      replace Ha : Hid (Sx ((wr.alloc (.cells #[.int .u8 116] 5)).freeze ⟨wr.heap.size, 1, none⟩ 1) ba key true m) := Ha.out.later hb
      replace AK : Hid (Ar ((wr.alloc (.cells #[.int .u8 116] 5)).freeze ⟨wr.heap.size, 1, none⟩ 1) q3 32 (List.map (Value.int .u8) key)) := AK.out.later hb
      replace HB : Hid (Below w.heap.size w ((wr.alloc (.cells #[.int .u8 116] 5)).freeze ⟨wr.heap.size, 1, none⟩ 1)) := HB.out.trans (hb.mono HB.out.size)
      clear hb
      by_cases hm : m = 18446744073709551615
      · subst hm
        go_wp2_with fail
        refine (seal9_last ba key 18446744073709551615 none 0 0 [] (some ⟨wr.heap.size, 0, none⟩) 1 1 [116] _ Ha.out rfl).mono ?_
        rintro e V9 ⟨rfl, hw⟩
        rw [hw]
        clear hw V9 hcvt hLt Rt
        obtain ⟨U, hU⟩ : ∃ U, U = ((wr.alloc (.cells #[.int .u8 116] 5)).freeze ⟨wr.heap.size, 1, none⟩ 1) := ⟨_, rfl⟩
        rw [← hU] at Ha AK HB ⊢
        clear hU
        go_wp2_with fail
        refine (nonce9_c ba key true 18446744073709551615 _ Ha.out).mono ?_
        rintro e V21 ⟨rfl, hw⟩
        rw [hw]
        clear hw V21
        go_wp2
        go_roundw
        case rel => exact ⟨k + 1, _, by go_num, by omega, rfl, by decide, Ha, AK, HB⟩
        case measure => simp [intOf]; omega
      · go_wp2_with fail
        refine (seal9_yes ba key m none 0 0 [] (some ⟨wr.heap.size, 0, none⟩) 1 1 [116] _ Ha.out hm (Rd.nil _ _ _ (fun _ => rfl)) Rt.out (by decide) (by decide)).mono ?_
        rintro e V21 ⟨gg, mg, Xg, n', rfl, hg, Hmg, HXg, HN', Og, HS', hb⟩
        have hnag : ba ≠ gg := by have := Ha.out.lt; omega
        replace Ha := HS'
        clear HS' hcvt hLt Rt hg
        replace Og : Hid (Rd V21 (some ⟨gg, 0, none⟩) mg mg Xg) := Og.out.rd
        replace AK : Hid (Ar V21 q3 32 (List.map (Value.int .u8) key)) := AK.out.extb hb (by omega)
        replace HB : Hid (Below w.heap.size w V21) := hb.below HB.out (by omega)
        clear hb
        go_upto_region 14 with fail
        refine wp_region_noPanic ?_
        refine wp_region_held_drew (S := Ext V21) (by kernel_rfl) (Ext.refl _).drew (fun hH => ?_)
        change wpAnyH _ _ _ _ _ _ #[false, false, false, false, false, false, false, false, false, false, false, false, false, false] _ _
        refine wpAnyH_take (i := 0) (oi := ?o0f) (v := ?v0f) ?h0f (by kernel_rfl) ?f0f ?r0f (fun _ _ _ h => h) (Or.inl ⟨?w0f, ?y0f⟩) (by assumption) ?t0f
        case h0f => simp only [List.getElem?_toArray]; rfl
        case f0f => kernel_rfl
        case r0f => kernel_rfl
        case w0f => rfl
        case y0f => (intro u hu; (go_simp) <;> with_reducible rfl)
        try simp only [Act.put, List.setIfInBounds_toArray, List.set_cons_zero, List.set_cons_succ]
        refine wpAnyH_take (i := 1) (oi := ?o1f) (v := ?v1f) ?h1f (by kernel_rfl) ?f1f ?r1f (fun _ _ _ h => h) (Or.inl ⟨?w1f, ?y1f⟩) (by assumption) ?t1f
        case h1f => simp only [List.getElem?_toArray]; rfl
        case f1f => kernel_rfl
        case r1f => kernel_rfl
        case w1f => rfl
        case y1f => (intro u hu; (go_simp) <;> with_reducible rfl)
        try simp only [Act.put, List.setIfInBounds_toArray, List.set_cons_zero, List.set_cons_succ]
        refine wpAnyH_take (i := 2) (oi := ?o2f) (v := ?v2f) ?h2f (by kernel_rfl) ?f2f ?r2f (fun _ _ _ h => h) (Or.inl ⟨?w2f, ?y2f⟩) (by assumption) ?t2f
        case h2f => simp only [List.getElem?_toArray]; rfl
        case f2f => kernel_rfl
        case r2f => kernel_rfl
        case w2f => rfl
        case y2f => (intro u hu; (go_simp) <;> with_reducible rfl)
        try simp only [Act.put, List.setIfInBounds_toArray, List.set_cons_zero, List.set_cons_succ]
        refine wpAnyH_take (i := 3) (oi := ?o3f) (v := ?v3f) ?h3f (by kernel_rfl) ?f3f ?r3f (fun _ _ _ h => h) (Or.inl ⟨?w3f, ?y3f⟩) (by assumption) ?t3f
        case h3f => simp only [List.getElem?_toArray]; rfl
        case f3f => kernel_rfl
        case r3f => kernel_rfl
        case w3f => rfl
        case y3f => (intro u hu; (go_simp) <;> with_reducible rfl)
        try simp only [Act.put, List.setIfInBounds_toArray, List.set_cons_zero, List.set_cons_succ]
        have s1 : ∀ u, Ext V21 u → (convert 25 9 (.slice (some ⟨gg, 0, none⟩) mg mg)).run Try.prog u = .ok (.string (strOfNums Xg)) u := fun u hu => str_of (Og.out.below hu)
        refine wpAnyH_take (i := 4) (oi := ?o4f) (v := ?v4f) ?h4f (by kernel_rfl) ?f4f ?r4f (fun _ _ _ h => h) (Or.inl ⟨?w4f, ?y4f⟩) (by assumption) ?t4f
        case h4f => simp only [List.getElem?_toArray]; rfl
        case f4f => kernel_rfl
        case r4f => kernel_rfl
        case w4f => rfl
        case y4f => (intro u hu; (go_simp) <;> with_reducible rfl)
        try simp only [Act.put, List.setIfInBounds_toArray, List.set_cons_zero, List.set_cons_succ]
        clear s1
        refine wpAnyH_take (i := 5) (oi := ?o5f) (v := .agg (List.map (Value.int .u8) key).toArray) ?h5f (by kernel_rfl) ?f5f ?r5f (fun _ _ _ h => h) ?y5f (by assumption) ?t5f
        case h5f => simp only [List.getElem?_toArray]; rfl
        case f5f => kernel_rfl
        case r5f => kernel_rfl
        case y5f => exact yieldsIf_load_mid (by rfl) 31 (.tmp 3) rfl q3 0 rfl (List.map (Value.int .u8) key) _ (fun u hu => range_later hu AK.out.rng) Try.underlying31 rfl hiK
        try simp only [Act.put, List.setIfInBounds_toArray, List.set_cons_zero, List.set_cons_succ]
        refine wpAnyH_take (i := 6) (oi := ?o6f) (v := ?v6f) ?h6f (by kernel_rfl) ?f6f ?r6f (fun _ _ _ h => h) (Or.inl ⟨?w6f, ?y6f⟩) (by assumption) ?t6f
        case h6f => simp only [List.getElem?_toArray]; rfl
        case f6f => kernel_rfl
        case r6f => kernel_rfl
        case w6f => rfl
        case y6f => (intro u hu; (go_simp) <;> with_reducible rfl)
        try simp only [Act.put, List.setIfInBounds_toArray, List.set_cons_zero, List.set_cons_succ]
        generalize V21.drew = y0 at *
        revert hH
        apply cut2 (F := fun u x N => Hid (Ext V21 u) ∧ Hid (Rd u (some ⟨x, 0, none⟩) 1 1 [116]) ∧ Hid (N = nn6 m) ∧ Hid (Bn 12 N))
        case h =>
          intro hrest hH
          refine wpAnyH_ready (rs := [7, 8]) (by kernel_rfl) (by simp) ?_
          refine AllReadyH.cons (o := ?ok1) ?hk1 (fun K hK => ?sk1) (AllReadyH.cons (o := ?ok2) ?hk2 (fun K hK => ?sk2) AllReadyH.nil)
          case hk1 => simp only [List.getElem?_toArray]; rfl
          case hk2 => simp only [List.getElem?_toArray]; rfl
          case sk1 =>
            go_simp
            refine (nonce_c m HMM.out.1 HMM.out.2 _).mono ?_
            rintro e V4 ⟨N, rfl, HN, HNn, hb⟩
            refine hK.out _ _ (hH.trans hb) (fun hH' => ?_)
            clear hK K hH
            have hH := hH'
            clear hH'
            try simp only [List.setIfInBounds_toArray, List.set]
            clear hb
            refine wpAnyH_ready (rs := [8]) (by kernel_rfl) (by simp) ?_
            refine AllReadyH.cons (o := ?ok5) ?hk5 (fun K hK => ?sk5) AllReadyH.nil
            case hk5 => simp only [List.getElem?_toArray]; rfl
            case sk5 =>
              go_simp
              have hb := bel1 V4 (.cells #[.int .u8 116] 5)
              have gx : V21.heap.size ≤ V4.heap.size := hH.size
              have Lx : Hid (Lt (V4.alloc (.cells #[.int .u8 116] 5)) V4.heap.size [116]) := lt_new V4 [116]
              refine hK.out _ _ (hH.trans hb) (fun hH' => ?_)
              clear hK K hH
              have hH := hH'
              clear hH'
              try simp only [List.setIfInBounds_toArray, List.set]
              obtain ⟨x7, hnew⟩ : ∃ v, v = (V4.alloc (.cells #[.int .u8 116] 5)) := ⟨_, rfl⟩
              obtain ⟨bx, hbn⟩ : ∃ v, v = V4.heap.size := ⟨_, rfl⟩
              rw [← hnew] at hb Lx hH ⊢
              rw [← hbn] at Lx gx ⊢
              clear hb hnew hbn
              refine wpAnyH_ready (rs := [9]) (by kernel_rfl) (by simp) ?_
              refine AllReadyH.cons (o := ?ok8) ?hk8 (fun K hK => ?sk8) AllReadyH.nil
              case hk8 => simp only [List.getElem?_toArray]; rfl
              case sk8 =>
                have hcv := conv_mark x7 bx [116] 1 1 Lx.out
                simp only [List.length_cons, List.length_nil, Nat.zero_add] at hcv
                go_simp
                clear hcv
                have Rx : Hid (Rd (x7.freeze ⟨bx, 1, none⟩ 1) (some ⟨bx, 0, none⟩) 1 1 [116]) := (Lx.out.rd (byt5 _ (by decide)) 1 (by decide)).frz _ _
                refine hK.out _ _ (ext_frz hH bx 1 gx) (fun hH' => ?_)
                clear hK K hH
                have hH := hH'
                clear hH'
                try simp only [List.setIfInBounds_toArray, List.set]
                clear Lx
                obtain ⟨x10, hnew⟩ : ∃ v, v = (x7.freeze ⟨bx, 1, none⟩ 1) := ⟨_, rfl⟩
                rw [← hnew] at hH Rx ⊢
                clear hnew
                exact hrest x10 bx N ⟨hH, Rx, HN, HNn⟩
          case sk2 =>
            go_simp
            have hb := bel1 y0 (.cells #[.int .u8 116] 5)
            have gx : V21.heap.size ≤ y0.heap.size := hH.size
            have Lx : Hid (Lt (y0.alloc (.cells #[.int .u8 116] 5)) y0.heap.size [116]) := lt_new y0 [116]
            refine hK.out _ _ (hH.trans hb) (fun hH' => ?_)
            clear hK K hH
            have hH := hH'
            clear hH'
            try simp only [List.setIfInBounds_toArray, List.set]
            obtain ⟨x12, hnew⟩ : ∃ v, v = (y0.alloc (.cells #[.int .u8 116] 5)) := ⟨_, rfl⟩
            obtain ⟨bx, hbn⟩ : ∃ v, v = y0.heap.size := ⟨_, rfl⟩
            rw [← hnew] at hb Lx hH ⊢
            rw [← hbn] at Lx gx ⊢
            clear hb hnew hbn
            refine wpAnyH_ready (rs := [7, 9]) (by kernel_rfl) (by simp) ?_
            refine AllReadyH.cons (o := ?ok13) ?hk13 (fun K hK => ?sk13) (AllReadyH.cons (o := ?ok14) ?hk14 (fun K hK => ?sk14) AllReadyH.nil)
            case hk13 => simp only [List.getElem?_toArray]; rfl
            case hk14 => simp only [List.getElem?_toArray]; rfl
            case sk13 =>
              go_simp
              refine (nonce_c m HMM.out.1 HMM.out.2 _).mono ?_
              rintro e V16 ⟨N, rfl, HN, HNn, hb⟩
              refine hK.out _ _ (hH.trans hb) (fun hH' => ?_)
              clear hK K hH
              have hH := hH'
              clear hH'
              try simp only [List.setIfInBounds_toArray, List.set]
              replace Lx : Hid (Lt V16 bx [116]) := Lx.out.later hb
              clear hb
              refine wpAnyH_ready (rs := [9]) (by kernel_rfl) (by simp) ?_
              refine AllReadyH.cons (o := ?ok17) ?hk17 (fun K hK => ?sk17) AllReadyH.nil
              case hk17 => simp only [List.getElem?_toArray]; rfl
              case sk17 =>
                have hcv := conv_mark V16 bx [116] 1 1 Lx.out
                simp only [List.length_cons, List.length_nil, Nat.zero_add] at hcv
                go_simp
                clear hcv
                have Rx : Hid (Rd (V16.freeze ⟨bx, 1, none⟩ 1) (some ⟨bx, 0, none⟩) 1 1 [116]) := (Lx.out.rd (byt5 _ (by decide)) 1 (by decide)).frz _ _
                refine hK.out _ _ (ext_frz hH bx 1 gx) (fun hH' => ?_)
                clear hK K hH
                have hH := hH'
                clear hH'
                try simp only [List.setIfInBounds_toArray, List.set]
                clear Lx
                obtain ⟨x19, hnew⟩ : ∃ v, v = (V16.freeze ⟨bx, 1, none⟩ 1) := ⟨_, rfl⟩
                rw [← hnew] at hH Rx ⊢
                clear hnew
                exact hrest x19 bx N ⟨hH, Rx, HN, HNn⟩
            case sk14 =>
              have hcv := conv_mark x12 bx [116] 1 1 Lx.out
              simp only [List.length_cons, List.length_nil, Nat.zero_add] at hcv
              go_simp
              clear hcv
              have Rx : Hid (Rd (x12.freeze ⟨bx, 1, none⟩ 1) (some ⟨bx, 0, none⟩) 1 1 [116]) := (Lx.out.rd (byt5 _ (by decide)) 1 (by decide)).frz _ _
              refine hK.out _ _ (ext_frz hH bx 1 gx) (fun hH' => ?_)
              clear hK K hH
              have hH := hH'
              clear hH'
              try simp only [List.setIfInBounds_toArray, List.set]
              clear Lx
              obtain ⟨x21, hnew⟩ : ∃ v, v = (x12.freeze ⟨bx, 1, none⟩ 1) := ⟨_, rfl⟩
              rw [← hnew] at hH Rx ⊢
              clear hnew
              refine wpAnyH_ready (rs := [7]) (by kernel_rfl) (by simp) ?_
              refine AllReadyH.cons (o := ?ok22) ?hk22 (fun K hK => ?sk22) AllReadyH.nil
              case hk22 => simp only [List.getElem?_toArray]; rfl
              case sk22 =>
                go_simp
                refine (nonce_c m HMM.out.1 HMM.out.2 _).mono ?_
                rintro e V24 ⟨N, rfl, HN, HNn, hb⟩
                refine hK.out _ _ (hH.trans hb) (fun hH' => ?_)
                clear hK K hH
                have hH := hH'
                clear hH'
                try simp only [List.setIfInBounds_toArray, List.set]
                replace Rx : Hid (Rd V24 (some ⟨bx, 0, none⟩) 1 1 [116]) := Rx.out.below hb
                clear hb
                exact hrest V24 bx N ⟨hH, Rx, HN, HNn⟩
        case hr =>
          rintro Y2 bx N ⟨hE, Rx, HN, HNn⟩
          have hH := hE.out
          clear hE
          refine wpAnyH_ready (rs := [10]) (by kernel_rfl) (by simp) ?_
          refine AllReadyH.cons (o := ?o10g) ?h10g (fun K hK => ?_) AllReadyH.nil
          case h10g => simp only [List.getElem?_toArray]; rfl
          go_simp
          refine (seal_c key N none 0 0 [] (some ⟨bx, 0, none⟩) 1 1 [116] HK.out HNn.out _ (Rd.nil _ _ _ (fun _ => rfl)) Rx.out (by decide) (by decide)).mono ?_
          rintro e U2 ⟨gB, mB, XB, rfl, HmB, HXB, OB, -, hb⟩
          refine hK.out _ _ (hH.trans hb) (fun hH' => ?_)
          clear hK K hH
          have hH := hH'
          clear hH'
          try simp only [List.setIfInBounds_toArray, List.set]
          have hb2 : Below V21.heap.size V21 U2 := hH
          have hXX : XB = Xg := by rw [HXB.out, HXg.out, HN.out]
          subst hXX
          refine wpAnyH_mono (S' := Ext U2) (fun u hu => Ext.trans hb2 hu) ?_
          clear hH hb
          have hH : Ext U2 U2 := Ext.refl _
          have OR : Hid (Rd U2 (some ⟨gB, 0, none⟩) mB mB XB) := OB.out.rd
          have s1 : ∀ u, Ext U2 u → (convert 25 9 (.slice (some ⟨gB, 0, none⟩) mB mB)).run Try.prog u = .ok (.string (strOfNums XB)) u := fun u hu => str_of (OR.out.below hu)
          refine wpAnyH_take (i := 11) (oi := ?o11g) (v := ?v11g) ?h11g (by kernel_rfl) ?f11g ?r11g (fun _ _ _ h => h) (Or.inl ⟨?w11g, ?y11g⟩) (by assumption) ?t11g
          case h11g => simp only [List.getElem?_toArray]; rfl
          case f11g => kernel_rfl
          case r11g => kernel_rfl
          case w11g => rfl
          case y11g => (intro u hu; (go_simp) <;> with_reducible rfl)
          try simp only [Act.put, List.setIfInBounds_toArray, List.set_cons_zero, List.set_cons_succ]
          refine wpAnyH_take (i := 12) (oi := ?o12g) (v := ?v12g) ?h12g (by kernel_rfl) ?f12g ?r12g (fun _ _ _ h => h) (Or.inl ⟨?w12g, ?y12g⟩) (by assumption) ?t12g
          case h12g => simp only [List.getElem?_toArray]; rfl
          case f12g => kernel_rfl
          case r12g => kernel_rfl
          case w12g => rfl
          case y12g => (intro u hu; (go_simp) <;> with_reducible rfl)
          try simp only [Act.put, List.setIfInBounds_toArray, List.set_cons_zero, List.set_cons_succ]
          refine wpAnyH_take (i := 13) (oi := ?o13g) (v := ?v13g) ?h13g (by kernel_rfl) ?f13g ?r13g (fun _ _ _ h => h) (Or.inl ⟨?w13g, ?y13g⟩) (by assumption) ?t13g
          case h13g => simp only [List.getElem?_toArray]; rfl
          case f13g => kernel_rfl
          case r13g => kernel_rfl
          case w13g => rfl
          case y13g => (intro u hu; (go_simp) <;> with_reducible rfl)
          try simp only [Act.put, List.setIfInBounds_toArray, List.set_cons_zero, List.set_cons_succ]
          refine wpAnyH_done (by kernel_rfl) ?_ _
          refine NoPanic.normal ?_
          clear s1 OR OB HmB HXB Rx HN HNn hH Og
          replace Ha : Hid (Sx U2 ba key true n') := Ha.out.later hb2
          replace AK : Hid (Ar U2 q3 32 (List.map (Value.int .u8) key)) := AK.out.later hb2
          replace HB : Hid (Below w.heap.size w U2) := HB.out.trans (hb2.mono HB.out.size)
          clear hb2
          have hw1 : IntKind.u64.wrap (m + 1) = n' := by rw [IntKind.wrap_u64, HN'.out]; have := HMM.out; have := hmL; omega
          go_wp2_with fail
          refine (nonce9_c ba key true n' _ Ha.out).mono ?_
          rintro e V22 ⟨rfl, hw⟩
          rw [hw]
          clear hw V22
          go_wp2
          go_roundw
          case rel => exact ⟨k + 1, n', by go_num, by omega, rfl, by have := HN'.out; have := hmL; omega, Ha, AK, HB⟩
          case measure => simp [intOf]; omega
    · go_wp2
      go_ret
      exact ⟨rfl, HB.out⟩
end Go.Proofs.Ytjmdgmbkkkoamaa
