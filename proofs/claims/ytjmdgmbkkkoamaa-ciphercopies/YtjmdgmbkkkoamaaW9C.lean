/-
  CipherCopies' walk. No statement of the seat is proved here.
-/
import Derived.Test.YtjmdgmbkkkoamaaVKn
import Derived.Test.YtjmdgmbkkkoamaaVOpen
import Derived.Test.YtjmdgmbkkkoamaaKLs
namespace Go.Proofs.Ytjmdgmbkkkoamaa
open Go.RowKit

set_option maxRecDepth 8000 in
set_option maxHeartbeats 16000000 in
theorem cipherCopies_walk (key : List Int) (aT : Option Addr) (lT cT : Nat) (tl : List (List Int)) (cut : Int) (hk : Bn 32 key) (hfew : Few9 tl) (hcut : -9223372036854775808 ≤ cut ∧ cut ≤ 9223372036854775807) (w : World) (ht : RdL w aT lT tl) :
    Calls Try.prog 7 #[(.agg (List.map (Value.int .u8) key).toArray), .slice aT lT cT, .int .i64 cut] w fun e w' => e = .returned (.bool true) ∧ Below w.heap.size w w' := by
  have HT : Hid (RdL w aT lT tl) := ht
  have HF : Hid (Few9 tl) := hfew
  clear ht hfew
  have HK : Hid (Bn 32 key) := hk
  clear hk
  obtain ⟨_, _, hiK⟩ := bn32_cells HK.out
  go_enter Try.func7, Try.ntmps7
  go_upto_region 1 with fail
  have AK : Hid (Ar (w.alloc (.cells (List.map (Value.int .u8) key).toArray 31)) w.heap.size 32 (List.map (Value.int .u8) key)) := ar_box w _ 32 HK.out.map_len _
  have HB : Hid (Below w.heap.size w (w.alloc (.cells (List.map (Value.int .u8) key).toArray 31))) := bel1 _ _
  obtain ⟨W0, hW0⟩ : ∃ W, W = (w.alloc (.cells (List.map (Value.int .u8) key).toArray 31)) := ⟨_, rfl⟩
  obtain ⟨q3, hq3⟩ : ∃ q, q = w.heap.size := ⟨_, rfl⟩
  rw [← hW0] at AK HB ⊢
  rw [← hq3] at AK ⊢
  have kq0 : q3 < W0.heap.size := AK.out.lt (by decide)
  clear hW0 hq3
  go_wp2_with fail
  refine (new9_c _).mono ?_
  rintro e V1 ⟨rfl, Ha, hb⟩
  obtain ⟨ba, hq⟩ : ∃ q, q = W0.heap.size := ⟨_, rfl⟩
  rw [← hq] at Ha ⊢
  have kaw : w.heap.size ≤ ba := by rw [hq]; exact HB.out.size
  have kqa : q3 < ba := by rw [hq]; exact AK.out.lt (by decide)
  clear hq
  replace AK : Hid (Ar V1 q3 32 (List.map (Value.int .u8) key)) := AK.out.later hb
  replace HB : Hid (Below w.heap.size w V1) := HB.out.trans (hb.mono HB.out.size)
  clear hb
  go_wp2_with fail
  refine (known9_any _).mono ?_
  rintro e V2 ⟨rfl, hb⟩
  replace Ha : Hid (Sx V2 ba z9l false 0) := Ha.out.later hb
  replace AK : Hid (Ar V2 q3 32 (List.map (Value.int .u8) key)) := AK.out.later hb
  replace HB : Hid (Below w.heap.size w V2) := HB.out.trans (hb.mono HB.out.size)
  clear hb
  go_wp2_with (refine wpList_load_mid rfl 31 (.tmp 3) rfl q3 0 rfl (List.map (Value.int .u8) key) _ AK.out.rng Try.underlying31 rfl hiK ?_)
  refine (init9_c ba z9l false 0 key HK.out _ Ha.out).mono ?_
  rintro e V3 ⟨rfl, HS', hb⟩
  replace Ha := HS'
  clear HS'
  replace AK : Hid (Ar V3 q3 32 (List.map (Value.int .u8) key)) := AK.out.extb hb (by omega)
  replace HB : Hid (Below w.heap.size w V3) := hb.below HB.out (by omega)
  clear hb
  clear hiK
  go_wp2_with fail
  refine (pick_any cut 8 hcut (by decide) _).mono ?_
  rintro e V4 ⟨p, rfl, p0, p1, hw⟩
  rw [hw]
  clear hw V4
  obtain ⟨pn, rfl⟩ := Int.eq_ofNat_of_zero_le p0
  have hp8 : pn < 8 := by omega
  clear p0 p1
  go_wp2
  go_loopw [9] (fun iv wr => ∃ (k : Nat) (m : Int), iv = .int .i64 k ∧ k ≤ 8 ∧ Hid (m = (k : Int)) ∧ Hid (Sx wr ba key true m) ∧ Hid (Ar wr q3 32 (List.map (Value.int .u8) key)) ∧ Hid (Below w.heap.size w wr)) (fun iv _ => 8 - (intOf iv).toNat)
  case atStart => exact ⟨0, 0, rfl, by decide, rfl, Ha, AK, HB⟩
  case round =>
    clear Ha AK HB
    obtain ⟨k, m, rfl, hk8, HM, Ha, AK, HB⟩ := hrel
    have hmL : m ≠ 18446744073709551615 := by have := HM.out; omega
    by_cases hc : k < lT ∧ k < pn
    · obtain ⟨h1, h2⟩ := hc
      have q1 : (k : Int) < lT := by omega
      have q2 : (k : Int) < (pn : Int) := by omega
      obtain ⟨bT, oT, rfl, hcT⟩ := HT.out.cell (by omega)
      obtain ⟨ai, ni, ci, ct', hrd⟩ := hcT k h1
      obtain ⟨tx, htx⟩ : ∃ x, x = tl[k]?.getD [] := ⟨_, rfl⟩
      have hni : ni ≤ 140737488351232 := by have := HF.out k; rw [hrd.hlen] at this; exact this
      rw [← htx] at hrd
      have HRD : Hid (Rd w ai ni ci tx) := hrd
      clear hcT hrd htx
      have cx := cell_later HB.out ct'
      go_wp2_with fail
      refine (seal9_yes ba key m none 0 0 [] ai ni ci tx _ Ha.out hmL (Rd.nil _ _ _ (fun _ => rfl)) (HRD.out.below HB.out) (by decide) hni).mono ?_
      rintro e V41 ⟨gx, mx, Xx, n1, rfl, hgx, -, HXx, HNx, Ox, HS', hb⟩
      replace Ox : Hid (Rd V41 (some ⟨gx, 0, none⟩) mx mx Xx) := Ox.out.rd
      replace Ha := HS'
      clear HS' cx hgx
      replace AK : Hid (Ar V41 q3 32 (List.map (Value.int .u8) key)) := AK.out.extb hb (by omega)
      replace HB : Hid (Below w.heap.size w V41) := hb.below HB.out (by omega)
      clear hb
      clear HXx Ox
      go_wp2
      go_roundw
      case rel => exact ⟨k + 1, n1, by go_num, by omega, by have := HNx.out; have := HM.out; unfold Hid; omega, Ha, AK, HB⟩
      case measure => simp [intOf]; omega
    · by_cases h1 : k < lT
      · have q1 : (k : Int) < lT := by omega
        have q2 : ¬ (k : Int) < (pn : Int) := by omega
        clear hc
        go_wp2_with fail
        refine (copy9_c ba key true m _ Ha.out).mono ?_
        rintro e V61 ⟨rfl, Hb, hb⟩
        obtain ⟨bb, hq⟩ : ∃ q, q = wr.heap.size := ⟨_, rfl⟩
        rw [← hq] at Hb ⊢
        have kbw : w.heap.size ≤ bb := by rw [hq]; exact HB.out.size
        have kba : ba < bb := by rw [hq]; exact Ha.out.lt
        have kqb : q3 < bb := by rw [hq]; exact AK.out.lt (by decide)
        clear hq
        replace Ha : Hid (Sx V61 ba key true m) := Ha.out.later hb
        replace AK : Hid (Ar V61 q3 32 (List.map (Value.int .u8) key)) := AK.out.later hb
        replace HB : Hid (Below w.heap.size w V61) := HB.out.trans (hb.mono HB.out.size)
        clear hb
        go_wp2_with fail
        refine (nonce9_c bb key true m _ Hb.out).mono ?_
        rintro e V62 ⟨rfl, hw⟩
        rw [hw]
        clear hw V62
        go_wp2_with fail
        refine (nonce9_c ba key true m _ Ha.out).mono ?_
        rintro e V63 ⟨rfl, hw⟩
        rw [hw]
        clear hw V63
        go_wp2
        go_loopw [11] (fun iv wr => ∃ (j : Nat) (m : Int), iv = .int .i64 j ∧ j ≤ 16 ∧ Hid (m ≤ 8 + (j : Int)) ∧ Hid (Sx wr ba key true m) ∧ Hid (Sx wr bb key true m) ∧ Hid (Ar wr q3 32 (List.map (Value.int .u8) key)) ∧ Hid (Below w.heap.size w wr)) (fun iv _ => 16 - (intOf iv).toNat)
        case atStart => exact ⟨pn, m, rfl, by omega, by have := HM.out; unfold Hid; omega, Ha, Hb, AK, HB⟩
        case round =>
          clear Ha Hb AK HB HM
          obtain ⟨j, m, rfl, hj16, HM, Ha, Hb, AK, HB⟩ := hrel
          have hmL : m ≠ 18446744073709551615 := by have := HM.out; omega
          by_cases hc : j < lT ∧ j < 16
          · obtain ⟨h1, h2⟩ := hc
            have q1 : (j : Int) < lT := by omega
            have q2 : (j : Int) < 16 := by omega
            obtain ⟨bT, oT, rfl, hcT⟩ := HT.out.cell (by omega)
            obtain ⟨ai, ni, ci, ct', hrd⟩ := hcT j h1
            obtain ⟨tx, htx⟩ : ∃ x, x = tl[j]?.getD [] := ⟨_, rfl⟩
            have hni : ni ≤ 140737488351232 := by have := HF.out j; rw [hrd.hlen] at this; exact this
            rw [← htx] at hrd
            have HRD : Hid (Rd w ai ni ci tx) := hrd
            clear hcT hrd htx
            have cx := cell_later HB.out ct'
            go_wp2_with fail
            refine (seal9_yes ba key m none 0 0 [] ai ni ci tx _ Ha.out hmL (Rd.nil _ _ _ (fun _ => rfl)) (HRD.out.below HB.out) (by decide) hni).mono ?_
            rintro e V81 ⟨gx, mx, Xx, n1, rfl, hgx, -, HXx, HNx, Ox, HS', hb⟩
            have hnxb : bb ≠ gx := by have := Hb.out.lt; omega
            replace Ox : Hid (Rd V81 (some ⟨gx, 0, none⟩) mx mx Xx) := Ox.out.rd
            replace Ha := HS'
            clear HS' cx hgx
            replace Hb : Hid (Sx V81 bb key true m) := Hb.out.extb hb (by omega)
            replace AK : Hid (Ar V81 q3 32 (List.map (Value.int .u8) key)) := AK.out.extb hb (by omega)
            replace HB : Hid (Below w.heap.size w V81) := hb.below HB.out (by omega)
            clear hb
            have cx := cell_later HB.out ct'
            go_wp2_with fail
            refine (seal9_yes bb key m none 0 0 [] ai ni ci tx _ Hb.out hmL (Rd.nil _ _ _ (fun _ => rfl)) (HRD.out.below HB.out) (by decide) hni).mono ?_
            rintro e V82 ⟨gy, my, Xy, n2, rfl, hgy, -, HXy, HNy, Oy, HS', hb⟩
            have hnya : ba ≠ gy := by have := Ha.out.lt; omega
            replace Oy : Hid (Rd V82 (some ⟨gy, 0, none⟩) my my Xy) := Oy.out.rd
            replace Hb := HS'
            clear HS' cx hgy
            replace Ha : Hid (Sx V82 ba key true n1) := Ha.out.extb hb (by omega)
            replace AK : Hid (Ar V82 q3 32 (List.map (Value.int .u8) key)) := AK.out.extb hb (by omega)
            replace Ox : Hid (Rd V82 (some ⟨gx, 0, none⟩) mx mx Xx) := Ox.out.extb hb (by omega)
            replace HB : Hid (Below w.heap.size w V82) := hb.below HB.out (by omega)
            clear hb
            have e1 : Xy = Xx := by rw [HXy.out, HXx.out]
            subst e1
            have e2 : n2 = n1 := by rw [HNy.out, HNx.out]
            subst e2
            have s1 := str_of Ox.out
            have s2 := str_of Oy.out
            clear HXy
            clear HXx Ox Oy
            go_wp2
            go_roundw
            case rel => exact ⟨j + 1, n2, by go_num, by omega, by have := HNx.out; have := HM.out; unfold Hid; omega, Ha, Hb, AK, HB⟩
            case measure => simp [intOf]; omega
          · by_cases h1 : j < lT
            · have q1 : (j : Int) < lT := by omega
              have q2 : ¬ (j : Int) < 16 := by omega
              clear hc
              go_wp2_with fail
              refine (nonce9_c ba key true m _ Ha.out).mono ?_
              rintro e V101 ⟨rfl, hw⟩
              rw [hw]
              clear hw V101
              go_wp2_with fail
              refine (rekey9_yes bb key m _ Hb.out).mono ?_
              rintro e V102 ⟨K, rfl, -, HS', hb⟩
              replace Hb := HS'
              clear HS'
              replace Ha : Hid (Sx V102 ba key true m) := Ha.out.extb hb (by omega)
              replace AK : Hid (Ar V102 q3 32 (List.map (Value.int .u8) key)) := AK.out.extb hb (by omega)
              replace HB : Hid (Below w.heap.size w V102) := hb.below HB.out (by omega)
              clear hb
              go_wp2_with fail
              refine (setn9_c bb K true m 5 (by decide) _ Hb.out).mono ?_
              rintro e V103 ⟨rfl, HS', hb⟩
              replace Hb := HS'
              clear HS'
              replace Ha : Hid (Sx V103 ba key true m) := Ha.out.extb hb (by omega)
              replace AK : Hid (Ar V103 q3 32 (List.map (Value.int .u8) key)) := AK.out.extb hb (by omega)
              replace HB : Hid (Below w.heap.size w V103) := hb.below HB.out (by omega)
              clear hb
              obtain ⟨_, _, hiK⟩ := bn32_cells HK.out
              go_upto_region 23 with fail
              refine wp_region_noPanic ?_
              refine wp_region_held_drew (S := Ext V103) (by kernel_rfl) (Ext.refl _).drew (fun hH => ?_)
              change wpAnyH _ _ _ _ _ _ #[false, false, false, false, false, false, false, false, false, false, false] _ _
              refine wpAnyH_take (i := 0) (oi := ?o0fa1) (v := ?v0fa1) ?h0fa1 (by kernel_rfl) ?f0fa1 ?r0fa1 (fun _ _ _ h => h) (Or.inl ⟨?w0fa1, ?y0fa1⟩) (by assumption) ?t0fa1
              case h0fa1 => simp only [List.getElem?_toArray]; rfl
              case f0fa1 => kernel_rfl
              case r0fa1 => kernel_rfl
              case w0fa1 => rfl
              case y0fa1 => (intro u hu; (go_simp) <;> with_reducible rfl)
              try simp only [Act.put, List.setIfInBounds_toArray, List.set_cons_zero, List.set_cons_succ]
              refine wpAnyH_take (i := 2) (oi := ?o2fa1) (v := ?v2fa1) ?h2fa1 (by kernel_rfl) ?f2fa1 ?r2fa1 (fun _ _ _ h => h) (Or.inl ⟨?w2fa1, ?y2fa1⟩) (by assumption) ?t2fa1
              case h2fa1 => simp only [List.getElem?_toArray]; rfl
              case f2fa1 => kernel_rfl
              case r2fa1 => kernel_rfl
              case w2fa1 => rfl
              case y2fa1 => (intro u hu; (go_simp) <;> with_reducible rfl)
              try simp only [Act.put, List.setIfInBounds_toArray, List.set_cons_zero, List.set_cons_succ]
              refine wpAnyH_ready (rs := [1]) (by kernel_rfl) (by simp) ?_
              refine AllReadyH.cons (o := ?o1fa1) ?h1fa1 (fun K hK => ?_) AllReadyH.nil
              case h1fa1 => simp only [List.getElem?_toArray]; rfl
              go_simp
              refine (nonce9_c ba key true m _ (Ha.out.later hH)).mono ?_
              rintro e V160 ⟨rfl, hw⟩
              rw [hw]
              clear hw V160
              refine hK.out _ _ hH (fun hH' => ?_)
              clear hK K hH
              have hH := hH'
              clear hH'
              try simp only [List.setIfInBounds_toArray, List.set]
              refine wpAnyH_take (i := 3) (oi := ?o3fa1) (v := ?v3fa1) ?h3fa1 (by kernel_rfl) ?f3fa1 ?r3fa1 (fun _ _ _ h => h) (Or.inl ⟨?w3fa1, ?y3fa1⟩) (by assumption) ?t3fa1
              case h3fa1 => simp only [List.getElem?_toArray]; rfl
              case f3fa1 => kernel_rfl
              case r3fa1 => kernel_rfl
              case w3fa1 => rfl
              case y3fa1 => (intro u hu; (go_simp) <;> with_reducible rfl)
              try simp only [Act.put, List.setIfInBounds_toArray, List.set_cons_zero, List.set_cons_succ]
              refine wpAnyH_take (i := 4) (oi := ?o4fa1) (v := ?v4fa1) ?h4fa1 (by kernel_rfl) ?f4fa1 ?r4fa1 (fun _ _ _ h => h) (Or.inl ⟨?w4fa1, ?y4fa1⟩) (by assumption) ?t4fa1
              case h4fa1 => simp only [List.getElem?_toArray]; rfl
              case f4fa1 => kernel_rfl
              case r4fa1 => kernel_rfl
              case w4fa1 => rfl
              case y4fa1 => (intro u hu; (go_simp) <;> with_reducible rfl)
              try simp only [Act.put, List.setIfInBounds_toArray, List.set_cons_zero, List.set_cons_succ]
              refine wpAnyH_take (i := 5) (oi := ?o5fa1) (v := ?v5fa1) ?h5fa1 (by kernel_rfl) ?f5fa1 ?r5fa1 (fun _ _ _ h => h) (Or.inl ⟨?w5fa1, ?y5fa1⟩) (by assumption) ?t5fa1
              case h5fa1 => simp only [List.getElem?_toArray]; rfl
              case f5fa1 => kernel_rfl
              case r5fa1 => kernel_rfl
              case w5fa1 => rfl
              case y5fa1 => (intro u hu; (go_simp) <;> with_reducible rfl)
              try simp only [Act.put, List.setIfInBounds_toArray, List.set_cons_zero, List.set_cons_succ]
              refine wpAnyH_take (i := 7) (oi := ?o7fa1) (v := .agg (List.map (Value.int .u8) key).toArray) ?h7fa1 (by kernel_rfl) ?f7fa1 ?r7fa1 (fun _ _ _ h => h) ?y7fa1 (by assumption) ?t7fa1
              case h7fa1 => simp only [List.getElem?_toArray]; rfl
              case f7fa1 => kernel_rfl
              case r7fa1 => kernel_rfl
              case y7fa1 => exact yieldsIf_load_mid (by rfl) 31 (.tmp 3) rfl q3 0 rfl (List.map (Value.int .u8) key) _ (fun u hu => range_later hu AK.out.rng) Try.underlying31 rfl hiK
              try simp only [Act.put, List.setIfInBounds_toArray, List.set_cons_zero, List.set_cons_succ]
              refine wpAnyH_ready (rs := [6]) (by kernel_rfl) (by simp) ?_
              refine AllReadyH.cons (o := ?o6fa1) ?h6fa1 (fun K hK => ?_) AllReadyH.nil
              case h6fa1 => simp only [List.getElem?_toArray]; rfl
              go_simp
              refine (key9_c ba key true m _ (Ha.out.later hH)).mono ?_
              rintro e V161 ⟨rfl, hb⟩
              refine hK.out _ _ (hH.trans hb) (fun hH' => ?_)
              clear hK K hH
              have hH := hH'
              clear hH'
              try simp only [List.setIfInBounds_toArray, List.set]
              clear hb
              have heq : ∀ u, Sem.run Try.prog (binOp .eql 31 (.agg (List.map (Value.int .u8) key).toArray) (.agg (List.map (Value.int .u8) key).toArray)) u = .ok (.bool true) u := fun u => eql32 key key HK.out rfl u
              refine wpAnyH_take (i := 8) (oi := ?o8fa1) (v := ?v8fa1) ?h8fa1 (by kernel_rfl) ?f8fa1 ?r8fa1 (fun _ _ _ h => h) (Or.inl ⟨?w8fa1, ?y8fa1⟩) (by assumption) ?t8fa1
              case h8fa1 => simp only [List.getElem?_toArray]; rfl
              case f8fa1 => kernel_rfl
              case r8fa1 => kernel_rfl
              case w8fa1 => rfl
              case y8fa1 => (intro u hu; (go_simp) <;> with_reducible rfl)
              try simp only [Act.put, List.setIfInBounds_toArray, List.set_cons_zero, List.set_cons_succ]
              refine wpAnyH_take (i := 9) (oi := ?o9fa1) (v := ?v9fa1) ?h9fa1 (by kernel_rfl) ?f9fa1 ?r9fa1 (fun _ _ _ h => h) (Or.inl ⟨?w9fa1, ?y9fa1⟩) (by assumption) ?t9fa1
              case h9fa1 => simp only [List.getElem?_toArray]; rfl
              case f9fa1 => kernel_rfl
              case r9fa1 => kernel_rfl
              case w9fa1 => rfl
              case y9fa1 => (intro u hu; (go_simp) <;> with_reducible rfl)
              try simp only [Act.put, List.setIfInBounds_toArray, List.set_cons_zero, List.set_cons_succ]
              refine wpAnyH_take (i := 10) (oi := ?o10fa1) (v := ?v10fa1) ?h10fa1 (by kernel_rfl) ?f10fa1 ?r10fa1 (fun _ _ _ h => h) (Or.inl ⟨?w10fa1, ?y10fa1⟩) (by assumption) ?t10fa1
              case h10fa1 => simp only [List.getElem?_toArray]; rfl
              case f10fa1 => kernel_rfl
              case r10fa1 => kernel_rfl
              case w10fa1 => rfl
              case y10fa1 => (intro u hu; (go_simp) <;> with_reducible rfl)
              try simp only [Act.put, List.setIfInBounds_toArray, List.set_cons_zero, List.set_cons_succ]
              refine wpAnyH_done (by kernel_rfl) ?_ _
              refine NoPanic.normal ?_
              replace HB : Hid (Below w.heap.size w _) := HB.out.trans (Below.mono hH HB.out.size)
              clear hH heq hiK
              go_wp2
              go_ret
              exact ⟨rfl, HB.out⟩
            · have q1 : ¬ (j : Int) < lT := by omega
              clear hc
              go_wp2_with fail
              refine (nonce9_c ba key true m _ Ha.out).mono ?_
              rintro e V101 ⟨rfl, hw⟩
              rw [hw]
              clear hw V101
              go_wp2_with fail
              refine (rekey9_yes bb key m _ Hb.out).mono ?_
              rintro e V102 ⟨K, rfl, -, HS', hb⟩
              replace Hb := HS'
              clear HS'
              replace Ha : Hid (Sx V102 ba key true m) := Ha.out.extb hb (by omega)
              replace AK : Hid (Ar V102 q3 32 (List.map (Value.int .u8) key)) := AK.out.extb hb (by omega)
              replace HB : Hid (Below w.heap.size w V102) := hb.below HB.out (by omega)
              clear hb
              go_wp2_with fail
              refine (setn9_c bb K true m 5 (by decide) _ Hb.out).mono ?_
              rintro e V103 ⟨rfl, HS', hb⟩
              replace Hb := HS'
              clear HS'
              replace Ha : Hid (Sx V103 ba key true m) := Ha.out.extb hb (by omega)
              replace AK : Hid (Ar V103 q3 32 (List.map (Value.int .u8) key)) := AK.out.extb hb (by omega)
              replace HB : Hid (Below w.heap.size w V103) := hb.below HB.out (by omega)
              clear hb
              obtain ⟨_, _, hiK⟩ := bn32_cells HK.out
              go_upto_region 23 with fail
              refine wp_region_noPanic ?_
              refine wp_region_held_drew (S := Ext V103) (by kernel_rfl) (Ext.refl _).drew (fun hH => ?_)
              change wpAnyH _ _ _ _ _ _ #[false, false, false, false, false, false, false, false, false, false, false] _ _
              refine wpAnyH_take (i := 0) (oi := ?o0fa2) (v := ?v0fa2) ?h0fa2 (by kernel_rfl) ?f0fa2 ?r0fa2 (fun _ _ _ h => h) (Or.inl ⟨?w0fa2, ?y0fa2⟩) (by assumption) ?t0fa2
              case h0fa2 => simp only [List.getElem?_toArray]; rfl
              case f0fa2 => kernel_rfl
              case r0fa2 => kernel_rfl
              case w0fa2 => rfl
              case y0fa2 => (intro u hu; (go_simp) <;> with_reducible rfl)
              try simp only [Act.put, List.setIfInBounds_toArray, List.set_cons_zero, List.set_cons_succ]
              refine wpAnyH_take (i := 2) (oi := ?o2fa2) (v := ?v2fa2) ?h2fa2 (by kernel_rfl) ?f2fa2 ?r2fa2 (fun _ _ _ h => h) (Or.inl ⟨?w2fa2, ?y2fa2⟩) (by assumption) ?t2fa2
              case h2fa2 => simp only [List.getElem?_toArray]; rfl
              case f2fa2 => kernel_rfl
              case r2fa2 => kernel_rfl
              case w2fa2 => rfl
              case y2fa2 => (intro u hu; (go_simp) <;> with_reducible rfl)
              try simp only [Act.put, List.setIfInBounds_toArray, List.set_cons_zero, List.set_cons_succ]
              refine wpAnyH_ready (rs := [1]) (by kernel_rfl) (by simp) ?_
              refine AllReadyH.cons (o := ?o1fa2) ?h1fa2 (fun K hK => ?_) AllReadyH.nil
              case h1fa2 => simp only [List.getElem?_toArray]; rfl
              go_simp
              refine (nonce9_c ba key true m _ (Ha.out.later hH)).mono ?_
              rintro e V160 ⟨rfl, hw⟩
              rw [hw]
              clear hw V160
              refine hK.out _ _ hH (fun hH' => ?_)
              clear hK K hH
              have hH := hH'
              clear hH'
              try simp only [List.setIfInBounds_toArray, List.set]
              refine wpAnyH_take (i := 3) (oi := ?o3fa2) (v := ?v3fa2) ?h3fa2 (by kernel_rfl) ?f3fa2 ?r3fa2 (fun _ _ _ h => h) (Or.inl ⟨?w3fa2, ?y3fa2⟩) (by assumption) ?t3fa2
              case h3fa2 => simp only [List.getElem?_toArray]; rfl
              case f3fa2 => kernel_rfl
              case r3fa2 => kernel_rfl
              case w3fa2 => rfl
              case y3fa2 => (intro u hu; (go_simp) <;> with_reducible rfl)
              try simp only [Act.put, List.setIfInBounds_toArray, List.set_cons_zero, List.set_cons_succ]
              refine wpAnyH_take (i := 4) (oi := ?o4fa2) (v := ?v4fa2) ?h4fa2 (by kernel_rfl) ?f4fa2 ?r4fa2 (fun _ _ _ h => h) (Or.inl ⟨?w4fa2, ?y4fa2⟩) (by assumption) ?t4fa2
              case h4fa2 => simp only [List.getElem?_toArray]; rfl
              case f4fa2 => kernel_rfl
              case r4fa2 => kernel_rfl
              case w4fa2 => rfl
              case y4fa2 => (intro u hu; (go_simp) <;> with_reducible rfl)
              try simp only [Act.put, List.setIfInBounds_toArray, List.set_cons_zero, List.set_cons_succ]
              refine wpAnyH_take (i := 5) (oi := ?o5fa2) (v := ?v5fa2) ?h5fa2 (by kernel_rfl) ?f5fa2 ?r5fa2 (fun _ _ _ h => h) (Or.inl ⟨?w5fa2, ?y5fa2⟩) (by assumption) ?t5fa2
              case h5fa2 => simp only [List.getElem?_toArray]; rfl
              case f5fa2 => kernel_rfl
              case r5fa2 => kernel_rfl
              case w5fa2 => rfl
              case y5fa2 => (intro u hu; (go_simp) <;> with_reducible rfl)
              try simp only [Act.put, List.setIfInBounds_toArray, List.set_cons_zero, List.set_cons_succ]
              refine wpAnyH_take (i := 7) (oi := ?o7fa2) (v := .agg (List.map (Value.int .u8) key).toArray) ?h7fa2 (by kernel_rfl) ?f7fa2 ?r7fa2 (fun _ _ _ h => h) ?y7fa2 (by assumption) ?t7fa2
              case h7fa2 => simp only [List.getElem?_toArray]; rfl
              case f7fa2 => kernel_rfl
              case r7fa2 => kernel_rfl
              case y7fa2 => exact yieldsIf_load_mid (by rfl) 31 (.tmp 3) rfl q3 0 rfl (List.map (Value.int .u8) key) _ (fun u hu => range_later hu AK.out.rng) Try.underlying31 rfl hiK
              try simp only [Act.put, List.setIfInBounds_toArray, List.set_cons_zero, List.set_cons_succ]
              refine wpAnyH_ready (rs := [6]) (by kernel_rfl) (by simp) ?_
              refine AllReadyH.cons (o := ?o6fa2) ?h6fa2 (fun K hK => ?_) AllReadyH.nil
              case h6fa2 => simp only [List.getElem?_toArray]; rfl
              go_simp
              refine (key9_c ba key true m _ (Ha.out.later hH)).mono ?_
              rintro e V161 ⟨rfl, hb⟩
              refine hK.out _ _ (hH.trans hb) (fun hH' => ?_)
              clear hK K hH
              have hH := hH'
              clear hH'
              try simp only [List.setIfInBounds_toArray, List.set]
              clear hb
              have heq : ∀ u, Sem.run Try.prog (binOp .eql 31 (.agg (List.map (Value.int .u8) key).toArray) (.agg (List.map (Value.int .u8) key).toArray)) u = .ok (.bool true) u := fun u => eql32 key key HK.out rfl u
              refine wpAnyH_take (i := 8) (oi := ?o8fa2) (v := ?v8fa2) ?h8fa2 (by kernel_rfl) ?f8fa2 ?r8fa2 (fun _ _ _ h => h) (Or.inl ⟨?w8fa2, ?y8fa2⟩) (by assumption) ?t8fa2
              case h8fa2 => simp only [List.getElem?_toArray]; rfl
              case f8fa2 => kernel_rfl
              case r8fa2 => kernel_rfl
              case w8fa2 => rfl
              case y8fa2 => (intro u hu; (go_simp) <;> with_reducible rfl)
              try simp only [Act.put, List.setIfInBounds_toArray, List.set_cons_zero, List.set_cons_succ]
              refine wpAnyH_take (i := 9) (oi := ?o9fa2) (v := ?v9fa2) ?h9fa2 (by kernel_rfl) ?f9fa2 ?r9fa2 (fun _ _ _ h => h) (Or.inl ⟨?w9fa2, ?y9fa2⟩) (by assumption) ?t9fa2
              case h9fa2 => simp only [List.getElem?_toArray]; rfl
              case f9fa2 => kernel_rfl
              case r9fa2 => kernel_rfl
              case w9fa2 => rfl
              case y9fa2 => (intro u hu; (go_simp) <;> with_reducible rfl)
              try simp only [Act.put, List.setIfInBounds_toArray, List.set_cons_zero, List.set_cons_succ]
              refine wpAnyH_take (i := 10) (oi := ?o10fa2) (v := ?v10fa2) ?h10fa2 (by kernel_rfl) ?f10fa2 ?r10fa2 (fun _ _ _ h => h) (Or.inl ⟨?w10fa2, ?y10fa2⟩) (by assumption) ?t10fa2
              case h10fa2 => simp only [List.getElem?_toArray]; rfl
              case f10fa2 => kernel_rfl
              case r10fa2 => kernel_rfl
              case w10fa2 => rfl
              case y10fa2 => (intro u hu; (go_simp) <;> with_reducible rfl)
              try simp only [Act.put, List.setIfInBounds_toArray, List.set_cons_zero, List.set_cons_succ]
              refine wpAnyH_done (by kernel_rfl) ?_ _
              refine NoPanic.normal ?_
              replace HB : Hid (Below w.heap.size w _) := HB.out.trans (Below.mono hH HB.out.size)
              clear hH heq hiK
              go_wp2
              go_ret
              exact ⟨rfl, HB.out⟩
      · have q1 : ¬ (k : Int) < lT := by omega
        clear hc
        go_wp2_with fail
        refine (copy9_c ba key true m _ Ha.out).mono ?_
        rintro e V61 ⟨rfl, Hb, hb⟩
        obtain ⟨bb, hq⟩ : ∃ q, q = wr.heap.size := ⟨_, rfl⟩
        rw [← hq] at Hb ⊢
        have kbw : w.heap.size ≤ bb := by rw [hq]; exact HB.out.size
        have kba : ba < bb := by rw [hq]; exact Ha.out.lt
        have kqb : q3 < bb := by rw [hq]; exact AK.out.lt (by decide)
        clear hq
        replace Ha : Hid (Sx V61 ba key true m) := Ha.out.later hb
        replace AK : Hid (Ar V61 q3 32 (List.map (Value.int .u8) key)) := AK.out.later hb
        replace HB : Hid (Below w.heap.size w V61) := HB.out.trans (hb.mono HB.out.size)
        clear hb
        go_wp2_with fail
        refine (nonce9_c bb key true m _ Hb.out).mono ?_
        rintro e V62 ⟨rfl, hw⟩
        rw [hw]
        clear hw V62
        go_wp2_with fail
        refine (nonce9_c ba key true m _ Ha.out).mono ?_
        rintro e V63 ⟨rfl, hw⟩
        rw [hw]
        clear hw V63
        go_wp2
        go_loopw [11] (fun iv wr => ∃ (j : Nat) (m : Int), iv = .int .i64 j ∧ j ≤ 16 ∧ Hid (m ≤ 8 + (j : Int)) ∧ Hid (Sx wr ba key true m) ∧ Hid (Sx wr bb key true m) ∧ Hid (Ar wr q3 32 (List.map (Value.int .u8) key)) ∧ Hid (Below w.heap.size w wr)) (fun iv _ => 16 - (intOf iv).toNat)
        case atStart => exact ⟨pn, m, rfl, by omega, by have := HM.out; unfold Hid; omega, Ha, Hb, AK, HB⟩
        case round =>
          clear Ha Hb AK HB HM
          obtain ⟨j, m, rfl, hj16, HM, Ha, Hb, AK, HB⟩ := hrel
          have hmL : m ≠ 18446744073709551615 := by have := HM.out; omega
          by_cases hc : j < lT ∧ j < 16
          · obtain ⟨h1, h2⟩ := hc
            have q1 : (j : Int) < lT := by omega
            have q2 : (j : Int) < 16 := by omega
            obtain ⟨bT, oT, rfl, hcT⟩ := HT.out.cell (by omega)
            obtain ⟨ai, ni, ci, ct', hrd⟩ := hcT j h1
            obtain ⟨tx, htx⟩ : ∃ x, x = tl[j]?.getD [] := ⟨_, rfl⟩
            have hni : ni ≤ 140737488351232 := by have := HF.out j; rw [hrd.hlen] at this; exact this
            rw [← htx] at hrd
            have HRD : Hid (Rd w ai ni ci tx) := hrd
            clear hcT hrd htx
            have cx := cell_later HB.out ct'
            go_wp2_with fail
            refine (seal9_yes ba key m none 0 0 [] ai ni ci tx _ Ha.out hmL (Rd.nil _ _ _ (fun _ => rfl)) (HRD.out.below HB.out) (by decide) hni).mono ?_
            rintro e V81 ⟨gx, mx, Xx, n1, rfl, hgx, -, HXx, HNx, Ox, HS', hb⟩
            have hnxb : bb ≠ gx := by have := Hb.out.lt; omega
            replace Ox : Hid (Rd V81 (some ⟨gx, 0, none⟩) mx mx Xx) := Ox.out.rd
            replace Ha := HS'
            clear HS' cx hgx
            replace Hb : Hid (Sx V81 bb key true m) := Hb.out.extb hb (by omega)
            replace AK : Hid (Ar V81 q3 32 (List.map (Value.int .u8) key)) := AK.out.extb hb (by omega)
            replace HB : Hid (Below w.heap.size w V81) := hb.below HB.out (by omega)
            clear hb
            have cx := cell_later HB.out ct'
            go_wp2_with fail
            refine (seal9_yes bb key m none 0 0 [] ai ni ci tx _ Hb.out hmL (Rd.nil _ _ _ (fun _ => rfl)) (HRD.out.below HB.out) (by decide) hni).mono ?_
            rintro e V82 ⟨gy, my, Xy, n2, rfl, hgy, -, HXy, HNy, Oy, HS', hb⟩
            have hnya : ba ≠ gy := by have := Ha.out.lt; omega
            replace Oy : Hid (Rd V82 (some ⟨gy, 0, none⟩) my my Xy) := Oy.out.rd
            replace Hb := HS'
            clear HS' cx hgy
            replace Ha : Hid (Sx V82 ba key true n1) := Ha.out.extb hb (by omega)
            replace AK : Hid (Ar V82 q3 32 (List.map (Value.int .u8) key)) := AK.out.extb hb (by omega)
            replace Ox : Hid (Rd V82 (some ⟨gx, 0, none⟩) mx mx Xx) := Ox.out.extb hb (by omega)
            replace HB : Hid (Below w.heap.size w V82) := hb.below HB.out (by omega)
            clear hb
            have e1 : Xy = Xx := by rw [HXy.out, HXx.out]
            subst e1
            have e2 : n2 = n1 := by rw [HNy.out, HNx.out]
            subst e2
            have s1 := str_of Ox.out
            have s2 := str_of Oy.out
            clear HXy
            clear HXx Ox Oy
            go_wp2
            go_roundw
            case rel => exact ⟨j + 1, n2, by go_num, by omega, by have := HNx.out; have := HM.out; unfold Hid; omega, Ha, Hb, AK, HB⟩
            case measure => simp [intOf]; omega
          · by_cases h1 : j < lT
            · have q1 : (j : Int) < lT := by omega
              have q2 : ¬ (j : Int) < 16 := by omega
              clear hc
              go_wp2_with fail
              refine (nonce9_c ba key true m _ Ha.out).mono ?_
              rintro e V101 ⟨rfl, hw⟩
              rw [hw]
              clear hw V101
              go_wp2_with fail
              refine (rekey9_yes bb key m _ Hb.out).mono ?_
              rintro e V102 ⟨K, rfl, -, HS', hb⟩
              replace Hb := HS'
              clear HS'
              replace Ha : Hid (Sx V102 ba key true m) := Ha.out.extb hb (by omega)
              replace AK : Hid (Ar V102 q3 32 (List.map (Value.int .u8) key)) := AK.out.extb hb (by omega)
              replace HB : Hid (Below w.heap.size w V102) := hb.below HB.out (by omega)
              clear hb
              go_wp2_with fail
              refine (setn9_c bb K true m 5 (by decide) _ Hb.out).mono ?_
              rintro e V103 ⟨rfl, HS', hb⟩
              replace Hb := HS'
              clear HS'
              replace Ha : Hid (Sx V103 ba key true m) := Ha.out.extb hb (by omega)
              replace AK : Hid (Ar V103 q3 32 (List.map (Value.int .u8) key)) := AK.out.extb hb (by omega)
              replace HB : Hid (Below w.heap.size w V103) := hb.below HB.out (by omega)
              clear hb
              obtain ⟨_, _, hiK⟩ := bn32_cells HK.out
              go_upto_region 23 with fail
              refine wp_region_noPanic ?_
              refine wp_region_held_drew (S := Ext V103) (by kernel_rfl) (Ext.refl _).drew (fun hH => ?_)
              change wpAnyH _ _ _ _ _ _ #[false, false, false, false, false, false, false, false, false, false, false] _ _
              refine wpAnyH_take (i := 0) (oi := ?o0fb1) (v := ?v0fb1) ?h0fb1 (by kernel_rfl) ?f0fb1 ?r0fb1 (fun _ _ _ h => h) (Or.inl ⟨?w0fb1, ?y0fb1⟩) (by assumption) ?t0fb1
              case h0fb1 => simp only [List.getElem?_toArray]; rfl
              case f0fb1 => kernel_rfl
              case r0fb1 => kernel_rfl
              case w0fb1 => rfl
              case y0fb1 => (intro u hu; (go_simp) <;> with_reducible rfl)
              try simp only [Act.put, List.setIfInBounds_toArray, List.set_cons_zero, List.set_cons_succ]
              refine wpAnyH_take (i := 2) (oi := ?o2fb1) (v := ?v2fb1) ?h2fb1 (by kernel_rfl) ?f2fb1 ?r2fb1 (fun _ _ _ h => h) (Or.inl ⟨?w2fb1, ?y2fb1⟩) (by assumption) ?t2fb1
              case h2fb1 => simp only [List.getElem?_toArray]; rfl
              case f2fb1 => kernel_rfl
              case r2fb1 => kernel_rfl
              case w2fb1 => rfl
              case y2fb1 => (intro u hu; (go_simp) <;> with_reducible rfl)
              try simp only [Act.put, List.setIfInBounds_toArray, List.set_cons_zero, List.set_cons_succ]
              refine wpAnyH_ready (rs := [1]) (by kernel_rfl) (by simp) ?_
              refine AllReadyH.cons (o := ?o1fb1) ?h1fb1 (fun K hK => ?_) AllReadyH.nil
              case h1fb1 => simp only [List.getElem?_toArray]; rfl
              go_simp
              refine (nonce9_c ba key true m _ (Ha.out.later hH)).mono ?_
              rintro e V160 ⟨rfl, hw⟩
              rw [hw]
              clear hw V160
              refine hK.out _ _ hH (fun hH' => ?_)
              clear hK K hH
              have hH := hH'
              clear hH'
              try simp only [List.setIfInBounds_toArray, List.set]
              refine wpAnyH_take (i := 3) (oi := ?o3fb1) (v := ?v3fb1) ?h3fb1 (by kernel_rfl) ?f3fb1 ?r3fb1 (fun _ _ _ h => h) (Or.inl ⟨?w3fb1, ?y3fb1⟩) (by assumption) ?t3fb1
              case h3fb1 => simp only [List.getElem?_toArray]; rfl
              case f3fb1 => kernel_rfl
              case r3fb1 => kernel_rfl
              case w3fb1 => rfl
              case y3fb1 => (intro u hu; (go_simp) <;> with_reducible rfl)
              try simp only [Act.put, List.setIfInBounds_toArray, List.set_cons_zero, List.set_cons_succ]
              refine wpAnyH_take (i := 4) (oi := ?o4fb1) (v := ?v4fb1) ?h4fb1 (by kernel_rfl) ?f4fb1 ?r4fb1 (fun _ _ _ h => h) (Or.inl ⟨?w4fb1, ?y4fb1⟩) (by assumption) ?t4fb1
              case h4fb1 => simp only [List.getElem?_toArray]; rfl
              case f4fb1 => kernel_rfl
              case r4fb1 => kernel_rfl
              case w4fb1 => rfl
              case y4fb1 => (intro u hu; (go_simp) <;> with_reducible rfl)
              try simp only [Act.put, List.setIfInBounds_toArray, List.set_cons_zero, List.set_cons_succ]
              refine wpAnyH_take (i := 5) (oi := ?o5fb1) (v := ?v5fb1) ?h5fb1 (by kernel_rfl) ?f5fb1 ?r5fb1 (fun _ _ _ h => h) (Or.inl ⟨?w5fb1, ?y5fb1⟩) (by assumption) ?t5fb1
              case h5fb1 => simp only [List.getElem?_toArray]; rfl
              case f5fb1 => kernel_rfl
              case r5fb1 => kernel_rfl
              case w5fb1 => rfl
              case y5fb1 => (intro u hu; (go_simp) <;> with_reducible rfl)
              try simp only [Act.put, List.setIfInBounds_toArray, List.set_cons_zero, List.set_cons_succ]
              refine wpAnyH_take (i := 7) (oi := ?o7fb1) (v := .agg (List.map (Value.int .u8) key).toArray) ?h7fb1 (by kernel_rfl) ?f7fb1 ?r7fb1 (fun _ _ _ h => h) ?y7fb1 (by assumption) ?t7fb1
              case h7fb1 => simp only [List.getElem?_toArray]; rfl
              case f7fb1 => kernel_rfl
              case r7fb1 => kernel_rfl
              case y7fb1 => exact yieldsIf_load_mid (by rfl) 31 (.tmp 3) rfl q3 0 rfl (List.map (Value.int .u8) key) _ (fun u hu => range_later hu AK.out.rng) Try.underlying31 rfl hiK
              try simp only [Act.put, List.setIfInBounds_toArray, List.set_cons_zero, List.set_cons_succ]
              refine wpAnyH_ready (rs := [6]) (by kernel_rfl) (by simp) ?_
              refine AllReadyH.cons (o := ?o6fb1) ?h6fb1 (fun K hK => ?_) AllReadyH.nil
              case h6fb1 => simp only [List.getElem?_toArray]; rfl
              go_simp
              refine (key9_c ba key true m _ (Ha.out.later hH)).mono ?_
              rintro e V161 ⟨rfl, hb⟩
              refine hK.out _ _ (hH.trans hb) (fun hH' => ?_)
              clear hK K hH
              have hH := hH'
              clear hH'
              try simp only [List.setIfInBounds_toArray, List.set]
              clear hb
              have heq : ∀ u, Sem.run Try.prog (binOp .eql 31 (.agg (List.map (Value.int .u8) key).toArray) (.agg (List.map (Value.int .u8) key).toArray)) u = .ok (.bool true) u := fun u => eql32 key key HK.out rfl u
              refine wpAnyH_take (i := 8) (oi := ?o8fb1) (v := ?v8fb1) ?h8fb1 (by kernel_rfl) ?f8fb1 ?r8fb1 (fun _ _ _ h => h) (Or.inl ⟨?w8fb1, ?y8fb1⟩) (by assumption) ?t8fb1
              case h8fb1 => simp only [List.getElem?_toArray]; rfl
              case f8fb1 => kernel_rfl
              case r8fb1 => kernel_rfl
              case w8fb1 => rfl
              case y8fb1 => (intro u hu; (go_simp) <;> with_reducible rfl)
              try simp only [Act.put, List.setIfInBounds_toArray, List.set_cons_zero, List.set_cons_succ]
              refine wpAnyH_take (i := 9) (oi := ?o9fb1) (v := ?v9fb1) ?h9fb1 (by kernel_rfl) ?f9fb1 ?r9fb1 (fun _ _ _ h => h) (Or.inl ⟨?w9fb1, ?y9fb1⟩) (by assumption) ?t9fb1
              case h9fb1 => simp only [List.getElem?_toArray]; rfl
              case f9fb1 => kernel_rfl
              case r9fb1 => kernel_rfl
              case w9fb1 => rfl
              case y9fb1 => (intro u hu; (go_simp) <;> with_reducible rfl)
              try simp only [Act.put, List.setIfInBounds_toArray, List.set_cons_zero, List.set_cons_succ]
              refine wpAnyH_take (i := 10) (oi := ?o10fb1) (v := ?v10fb1) ?h10fb1 (by kernel_rfl) ?f10fb1 ?r10fb1 (fun _ _ _ h => h) (Or.inl ⟨?w10fb1, ?y10fb1⟩) (by assumption) ?t10fb1
              case h10fb1 => simp only [List.getElem?_toArray]; rfl
              case f10fb1 => kernel_rfl
              case r10fb1 => kernel_rfl
              case w10fb1 => rfl
              case y10fb1 => (intro u hu; (go_simp) <;> with_reducible rfl)
              try simp only [Act.put, List.setIfInBounds_toArray, List.set_cons_zero, List.set_cons_succ]
              refine wpAnyH_done (by kernel_rfl) ?_ _
              refine NoPanic.normal ?_
              replace HB : Hid (Below w.heap.size w _) := HB.out.trans (Below.mono hH HB.out.size)
              clear hH heq hiK
              go_wp2
              go_ret
              exact ⟨rfl, HB.out⟩
            · have q1 : ¬ (j : Int) < lT := by omega
              clear hc
              go_wp2_with fail
              refine (nonce9_c ba key true m _ Ha.out).mono ?_
              rintro e V101 ⟨rfl, hw⟩
              rw [hw]
              clear hw V101
              go_wp2_with fail
              refine (rekey9_yes bb key m _ Hb.out).mono ?_
              rintro e V102 ⟨K, rfl, -, HS', hb⟩
              replace Hb := HS'
              clear HS'
              replace Ha : Hid (Sx V102 ba key true m) := Ha.out.extb hb (by omega)
              replace AK : Hid (Ar V102 q3 32 (List.map (Value.int .u8) key)) := AK.out.extb hb (by omega)
              replace HB : Hid (Below w.heap.size w V102) := hb.below HB.out (by omega)
              clear hb
              go_wp2_with fail
              refine (setn9_c bb K true m 5 (by decide) _ Hb.out).mono ?_
              rintro e V103 ⟨rfl, HS', hb⟩
              replace Hb := HS'
              clear HS'
              replace Ha : Hid (Sx V103 ba key true m) := Ha.out.extb hb (by omega)
              replace AK : Hid (Ar V103 q3 32 (List.map (Value.int .u8) key)) := AK.out.extb hb (by omega)
              replace HB : Hid (Below w.heap.size w V103) := hb.below HB.out (by omega)
              clear hb
              obtain ⟨_, _, hiK⟩ := bn32_cells HK.out
              go_upto_region 23 with fail
              refine wp_region_noPanic ?_
              refine wp_region_held_drew (S := Ext V103) (by kernel_rfl) (Ext.refl _).drew (fun hH => ?_)
              change wpAnyH _ _ _ _ _ _ #[false, false, false, false, false, false, false, false, false, false, false] _ _
              refine wpAnyH_take (i := 0) (oi := ?o0fb2) (v := ?v0fb2) ?h0fb2 (by kernel_rfl) ?f0fb2 ?r0fb2 (fun _ _ _ h => h) (Or.inl ⟨?w0fb2, ?y0fb2⟩) (by assumption) ?t0fb2
              case h0fb2 => simp only [List.getElem?_toArray]; rfl
              case f0fb2 => kernel_rfl
              case r0fb2 => kernel_rfl
              case w0fb2 => rfl
              case y0fb2 => (intro u hu; (go_simp) <;> with_reducible rfl)
              try simp only [Act.put, List.setIfInBounds_toArray, List.set_cons_zero, List.set_cons_succ]
              refine wpAnyH_take (i := 2) (oi := ?o2fb2) (v := ?v2fb2) ?h2fb2 (by kernel_rfl) ?f2fb2 ?r2fb2 (fun _ _ _ h => h) (Or.inl ⟨?w2fb2, ?y2fb2⟩) (by assumption) ?t2fb2
              case h2fb2 => simp only [List.getElem?_toArray]; rfl
              case f2fb2 => kernel_rfl
              case r2fb2 => kernel_rfl
              case w2fb2 => rfl
              case y2fb2 => (intro u hu; (go_simp) <;> with_reducible rfl)
              try simp only [Act.put, List.setIfInBounds_toArray, List.set_cons_zero, List.set_cons_succ]
              refine wpAnyH_ready (rs := [1]) (by kernel_rfl) (by simp) ?_
              refine AllReadyH.cons (o := ?o1fb2) ?h1fb2 (fun K hK => ?_) AllReadyH.nil
              case h1fb2 => simp only [List.getElem?_toArray]; rfl
              go_simp
              refine (nonce9_c ba key true m _ (Ha.out.later hH)).mono ?_
              rintro e V160 ⟨rfl, hw⟩
              rw [hw]
              clear hw V160
              refine hK.out _ _ hH (fun hH' => ?_)
              clear hK K hH
              have hH := hH'
              clear hH'
              try simp only [List.setIfInBounds_toArray, List.set]
              refine wpAnyH_take (i := 3) (oi := ?o3fb2) (v := ?v3fb2) ?h3fb2 (by kernel_rfl) ?f3fb2 ?r3fb2 (fun _ _ _ h => h) (Or.inl ⟨?w3fb2, ?y3fb2⟩) (by assumption) ?t3fb2
              case h3fb2 => simp only [List.getElem?_toArray]; rfl
              case f3fb2 => kernel_rfl
              case r3fb2 => kernel_rfl
              case w3fb2 => rfl
              case y3fb2 => (intro u hu; (go_simp) <;> with_reducible rfl)
              try simp only [Act.put, List.setIfInBounds_toArray, List.set_cons_zero, List.set_cons_succ]
              refine wpAnyH_take (i := 4) (oi := ?o4fb2) (v := ?v4fb2) ?h4fb2 (by kernel_rfl) ?f4fb2 ?r4fb2 (fun _ _ _ h => h) (Or.inl ⟨?w4fb2, ?y4fb2⟩) (by assumption) ?t4fb2
              case h4fb2 => simp only [List.getElem?_toArray]; rfl
              case f4fb2 => kernel_rfl
              case r4fb2 => kernel_rfl
              case w4fb2 => rfl
              case y4fb2 => (intro u hu; (go_simp) <;> with_reducible rfl)
              try simp only [Act.put, List.setIfInBounds_toArray, List.set_cons_zero, List.set_cons_succ]
              refine wpAnyH_take (i := 5) (oi := ?o5fb2) (v := ?v5fb2) ?h5fb2 (by kernel_rfl) ?f5fb2 ?r5fb2 (fun _ _ _ h => h) (Or.inl ⟨?w5fb2, ?y5fb2⟩) (by assumption) ?t5fb2
              case h5fb2 => simp only [List.getElem?_toArray]; rfl
              case f5fb2 => kernel_rfl
              case r5fb2 => kernel_rfl
              case w5fb2 => rfl
              case y5fb2 => (intro u hu; (go_simp) <;> with_reducible rfl)
              try simp only [Act.put, List.setIfInBounds_toArray, List.set_cons_zero, List.set_cons_succ]
              refine wpAnyH_take (i := 7) (oi := ?o7fb2) (v := .agg (List.map (Value.int .u8) key).toArray) ?h7fb2 (by kernel_rfl) ?f7fb2 ?r7fb2 (fun _ _ _ h => h) ?y7fb2 (by assumption) ?t7fb2
              case h7fb2 => simp only [List.getElem?_toArray]; rfl
              case f7fb2 => kernel_rfl
              case r7fb2 => kernel_rfl
              case y7fb2 => exact yieldsIf_load_mid (by rfl) 31 (.tmp 3) rfl q3 0 rfl (List.map (Value.int .u8) key) _ (fun u hu => range_later hu AK.out.rng) Try.underlying31 rfl hiK
              try simp only [Act.put, List.setIfInBounds_toArray, List.set_cons_zero, List.set_cons_succ]
              refine wpAnyH_ready (rs := [6]) (by kernel_rfl) (by simp) ?_
              refine AllReadyH.cons (o := ?o6fb2) ?h6fb2 (fun K hK => ?_) AllReadyH.nil
              case h6fb2 => simp only [List.getElem?_toArray]; rfl
              go_simp
              refine (key9_c ba key true m _ (Ha.out.later hH)).mono ?_
              rintro e V161 ⟨rfl, hb⟩
              refine hK.out _ _ (hH.trans hb) (fun hH' => ?_)
              clear hK K hH
              have hH := hH'
              clear hH'
              try simp only [List.setIfInBounds_toArray, List.set]
              clear hb
              have heq : ∀ u, Sem.run Try.prog (binOp .eql 31 (.agg (List.map (Value.int .u8) key).toArray) (.agg (List.map (Value.int .u8) key).toArray)) u = .ok (.bool true) u := fun u => eql32 key key HK.out rfl u
              refine wpAnyH_take (i := 8) (oi := ?o8fb2) (v := ?v8fb2) ?h8fb2 (by kernel_rfl) ?f8fb2 ?r8fb2 (fun _ _ _ h => h) (Or.inl ⟨?w8fb2, ?y8fb2⟩) (by assumption) ?t8fb2
              case h8fb2 => simp only [List.getElem?_toArray]; rfl
              case f8fb2 => kernel_rfl
              case r8fb2 => kernel_rfl
              case w8fb2 => rfl
              case y8fb2 => (intro u hu; (go_simp) <;> with_reducible rfl)
              try simp only [Act.put, List.setIfInBounds_toArray, List.set_cons_zero, List.set_cons_succ]
              refine wpAnyH_take (i := 9) (oi := ?o9fb2) (v := ?v9fb2) ?h9fb2 (by kernel_rfl) ?f9fb2 ?r9fb2 (fun _ _ _ h => h) (Or.inl ⟨?w9fb2, ?y9fb2⟩) (by assumption) ?t9fb2
              case h9fb2 => simp only [List.getElem?_toArray]; rfl
              case f9fb2 => kernel_rfl
              case r9fb2 => kernel_rfl
              case w9fb2 => rfl
              case y9fb2 => (intro u hu; (go_simp) <;> with_reducible rfl)
              try simp only [Act.put, List.setIfInBounds_toArray, List.set_cons_zero, List.set_cons_succ]
              refine wpAnyH_take (i := 10) (oi := ?o10fb2) (v := ?v10fb2) ?h10fb2 (by kernel_rfl) ?f10fb2 ?r10fb2 (fun _ _ _ h => h) (Or.inl ⟨?w10fb2, ?y10fb2⟩) (by assumption) ?t10fb2
              case h10fb2 => simp only [List.getElem?_toArray]; rfl
              case f10fb2 => kernel_rfl
              case r10fb2 => kernel_rfl
              case w10fb2 => rfl
              case y10fb2 => (intro u hu; (go_simp) <;> with_reducible rfl)
              try simp only [Act.put, List.setIfInBounds_toArray, List.set_cons_zero, List.set_cons_succ]
              refine wpAnyH_done (by kernel_rfl) ?_ _
              refine NoPanic.normal ?_
              replace HB : Hid (Below w.heap.size w _) := HB.out.trans (Below.mono hH HB.out.size)
              clear hH heq hiK
              go_wp2
              go_ret
              exact ⟨rfl, HB.out⟩
end Go.Proofs.Ytjmdgmbkkkoamaa
