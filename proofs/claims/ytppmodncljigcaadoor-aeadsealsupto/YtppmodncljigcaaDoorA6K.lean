/-
  What the law's own 'known' does: chapter 6's examples hold. No statement of the seat is proved here.
-/
import Derived.Test.YtppmodncljigcaaDoorA6O
import Derived.Test.YtppmodncljigcaaDoorKSec
import Derived.Test.YtppmodncljigcaaDoorKLit
namespace Go.Proofs.YtppmodncljigcaaDoor
open Go.RowKit

theorem er6_short (k n x b : List Int) (h : b.length < 16) : er6 k n x b = 7 := by unfold er6; rw [if_pos h]
theorem nn6_258 : nn6 258 = [0, 0, 0, 0, 2, 1, 0, 0, 0, 0, 0, 0] := by decide +kernel
theorem str_text : strOfNums [116, 101, 120, 116] = { data := #[116, 101, 120, 116] } := by decide +kernel
set_option maxRecDepth 8000 in
set_option maxHeartbeats 16000000 in
theorem known6_any (w : World) : Calls Tryd.prog 6 #[] w fun e w' => e = .returned (.bool true) ∧ Below w.heap.size w w' := by
  go_enter Tryd.func6, Tryd.ntmps6
  go_wp2_with fail
  refine (secret_l 1 _).mono ?_
  rintro e V ⟨key, rfl, -, HK, hb⟩
  have HB : Hid (Below w.heap.size w V) := hb
  clear hb
  obtain ⟨hlenK, honeK, hiK⟩ := bn32_cells HK.out
  obtain ⟨csK, hcs⟩ : ∃ cs, cs = (List.map (Value.int .u8) key) := ⟨_, rfl⟩
  rw [← hcs] at hlenK honeK hiK ⊢
  have HCK : Hid (csK = (List.map (Value.int .u8) key)) := hcs
  clear hcs
  have hth := there_new V 32 #[.int .u8 0, .int .u8 0, .int .u8 0, .int .u8 0, .int .u8 0, .int .u8 0, .int .u8 0, .int .u8 0, .int .u8 0, .int .u8 0, .int .u8 0, .int .u8 0, .int .u8 0, .int .u8 0, .int .u8 0, .int .u8 0, .int .u8 0, .int .u8 0, .int .u8 0, .int .u8 0, .int .u8 0, .int .u8 0, .int .u8 0, .int .u8 0, .int .u8 0, .int .u8 0, .int .u8 0, .int .u8 0, .int .u8 0, .int .u8 0, .int .u8 0, .int .u8 0] rfl 22
  have AK : Hid (Ar ((V.alloc (.cells #[.int .u8 0, .int .u8 0, .int .u8 0, .int .u8 0, .int .u8 0, .int .u8 0, .int .u8 0, .int .u8 0, .int .u8 0, .int .u8 0, .int .u8 0, .int .u8 0, .int .u8 0, .int .u8 0, .int .u8 0, .int .u8 0, .int .u8 0, .int .u8 0, .int .u8 0, .int .u8 0, .int .u8 0, .int .u8 0, .int .u8 0, .int .u8 0, .int .u8 0, .int .u8 0, .int .u8 0, .int .u8 0, .int .u8 0, .int .u8 0, .int .u8 0, .int .u8 0] 22)).setCells V.heap.size 0 csK) V.heap.size 32 (List.map (Value.int .u8) key)) := by rw [← HCK.out]; exact ar_var _ _ 32 rfl _ _ hlenK
  have hX : Below V.heap.size V ((V.alloc (.cells #[.int .u8 0, .int .u8 0, .int .u8 0, .int .u8 0, .int .u8 0, .int .u8 0, .int .u8 0, .int .u8 0, .int .u8 0, .int .u8 0, .int .u8 0, .int .u8 0, .int .u8 0, .int .u8 0, .int .u8 0, .int .u8 0, .int .u8 0, .int .u8 0, .int .u8 0, .int .u8 0, .int .u8 0, .int .u8 0, .int .u8 0, .int .u8 0, .int .u8 0, .int .u8 0, .int .u8 0, .int .u8 0, .int .u8 0, .int .u8 0, .int .u8 0, .int .u8 0] 22)).setCells V.heap.size 0 csK) := bel_var _ _ _ _
  have hbsK : w.heap.size ≤ V.heap.size := HB.out.size
  replace HB : Hid (Below w.heap.size w ((V.alloc (.cells #[.int .u8 0, .int .u8 0, .int .u8 0, .int .u8 0, .int .u8 0, .int .u8 0, .int .u8 0, .int .u8 0, .int .u8 0, .int .u8 0, .int .u8 0, .int .u8 0, .int .u8 0, .int .u8 0, .int .u8 0, .int .u8 0, .int .u8 0, .int .u8 0, .int .u8 0, .int .u8 0, .int .u8 0, .int .u8 0, .int .u8 0, .int .u8 0, .int .u8 0, .int .u8 0, .int .u8 0, .int .u8 0, .int .u8 0, .int .u8 0, .int .u8 0, .int .u8 0] 22)).setCells V.heap.size 0 csK)) := HB.out.trans (hX.mono HB.out.size)
  clear hX
  go_upto_region 2 with (refine wpList_store_mid rfl 22 (.tmp 1) (.tmp 7) rfl (V.heap.size) 0 csK.toArray rfl rfl (by simpa [hlenK] using hth) (by simpa using hiK) (all_oneCell_toArray honeK) ?_)
  clear hth
  generalize ((V.alloc (.cells #[.int .u8 0, .int .u8 0, .int .u8 0, .int .u8 0, .int .u8 0, .int .u8 0, .int .u8 0, .int .u8 0, .int .u8 0, .int .u8 0, .int .u8 0, .int .u8 0, .int .u8 0, .int .u8 0, .int .u8 0, .int .u8 0, .int .u8 0, .int .u8 0, .int .u8 0, .int .u8 0, .int .u8 0, .int .u8 0, .int .u8 0, .int .u8 0, .int .u8 0, .int .u8 0, .int .u8 0, .int .u8 0, .int .u8 0, .int .u8 0, .int .u8 0, .int .u8 0] 22)).setCells V.heap.size 0 csK) = W1 at *
  generalize V.heap.size = bK at *
  clear HCK honeK hlenK hiK
  have AK := AK
  obtain ⟨_, _, hiK⟩ := bn32_cells HK.out
  refine wp_region_noPanic ?_
  refine wp_region_held_drew (S := Ext W1) (by kernel_rfl) (Ext.refl _).drew (fun hH => ?_)
  change wpAnyH _ _ _ _ _ _ #[false, false, false, false, false, false, false, false] _ _
  refine wpAnyH_take (i := 0) (oi := ?o0p) (v := .agg (List.map (Value.int .u8) key).toArray) ?h0p (by kernel_rfl) ?f0p ?r0p (fun _ _ _ h => h) ?y0p (by assumption) ?t0p
  case h0p => simp only [List.getElem?_toArray]; rfl
  case f0p => kernel_rfl
  case r0p => kernel_rfl
  case y0p => exact yieldsIf_load_mid (by rfl) 22 (.tmp 1) rfl bK 0 rfl (List.map (Value.int .u8) key) _ (fun u hu => range_later hu AK.out.rng) Tryd.underlying22 rfl hiK
  try simp only [Act.put, List.setIfInBounds_toArray, List.set_cons_zero, List.set_cons_succ]
  generalize W1.drew = y0 at *
  revert hH
  apply cut3 (F := fun u x y N => Hid (Ext W1 u) ∧ Hid (Rd u (some ⟨x, 0, none⟩) 2 2 [97, 100]) ∧ Hid (Rd u (some ⟨y, 0, none⟩) 4 4 [116, 101, 120, 116]) ∧ Hid (N = nn6 7) ∧ Hid (Bn 12 N))
  case h =>
    intro hrest hH
    refine wpAnyH_ready (rs := [1, 2, 4]) (by kernel_rfl) (by simp) ?_
    refine AllReadyH.cons (o := ?ok1) ?hk1 (fun K hK => ?sk1) (AllReadyH.cons (o := ?ok2) ?hk2 (fun K hK => ?sk2) (AllReadyH.cons (o := ?ok3) ?hk3 (fun K hK => ?sk3) AllReadyH.nil))
    case hk1 => simp only [List.getElem?_toArray]; rfl
    case hk2 => simp only [List.getElem?_toArray]; rfl
    case hk3 => simp only [List.getElem?_toArray]; rfl
    case sk1 =>
      go_simp
      refine (nonce_c 7 (by decide) (by decide) _).mono ?_
      rintro e V5 ⟨N, rfl, HN, HNn, hb⟩
      refine hK.out _ _ (hH.trans hb) (fun hH' => ?_)
      clear hK K hH
      have hH := hH'
      clear hH'
      try simp only [List.setIfInBounds_toArray, List.set]
      clear hb
      refine wpAnyH_ready (rs := [2, 4]) (by kernel_rfl) (by simp) ?_
      refine AllReadyH.cons (o := ?ok6) ?hk6 (fun K hK => ?sk6) (AllReadyH.cons (o := ?ok7) ?hk7 (fun K hK => ?sk7) AllReadyH.nil)
      case hk6 => simp only [List.getElem?_toArray]; rfl
      case hk7 => simp only [List.getElem?_toArray]; rfl
      case sk6 =>
        go_simp
        have hb := bel1 V5 (.cells #[.int .u8 97, .int .u8 100] 5)
        have gx : W1.heap.size ≤ V5.heap.size := hH.size
        have Lx : Hid (Lt (V5.alloc (.cells #[.int .u8 97, .int .u8 100] 5)) V5.heap.size [97, 100]) := lt_new V5 [97, 100]
        refine hK.out _ _ (hH.trans hb) (fun hH' => ?_)
        clear hK K hH
        have hH := hH'
        clear hH'
        try simp only [List.setIfInBounds_toArray, List.set]
        obtain ⟨x9, hnew⟩ : ∃ v, v = (V5.alloc (.cells #[.int .u8 97, .int .u8 100] 5)) := ⟨_, rfl⟩
        obtain ⟨bx, hbn⟩ : ∃ v, v = V5.heap.size := ⟨_, rfl⟩
        rw [← hnew] at hb Lx hH ⊢
        rw [← hbn] at Lx gx ⊢
        clear hb hnew hbn
        refine wpAnyH_ready (rs := [3, 4]) (by kernel_rfl) (by simp) ?_
        refine AllReadyH.cons (o := ?ok10) ?hk10 (fun K hK => ?sk10) (AllReadyH.cons (o := ?ok11) ?hk11 (fun K hK => ?sk11) AllReadyH.nil)
        case hk10 => simp only [List.getElem?_toArray]; rfl
        case hk11 => simp only [List.getElem?_toArray]; rfl
        case sk10 =>
          have hcv := conv_mark x9 bx [97, 100] 2 2 Lx.out
          simp only [List.length_cons, List.length_nil, Nat.zero_add, Nat.reduceAdd] at hcv
          go_simp
          clear hcv
          have Rx : Hid (Rd (x9.freeze ⟨bx, 2, none⟩ 1) (some ⟨bx, 0, none⟩) 2 2 [97, 100]) := (Lx.out.rd (byt5 _ (by decide)) 2 (by decide)).frz _ _
          refine hK.out _ _ (ext_frz hH bx 2 gx) (fun hH' => ?_)
          clear hK K hH
          have hH := hH'
          clear hH'
          try simp only [List.setIfInBounds_toArray, List.set]
          clear Lx
          obtain ⟨x13, hnew⟩ : ∃ v, v = (x9.freeze ⟨bx, 2, none⟩ 1) := ⟨_, rfl⟩
          rw [← hnew] at hH Rx ⊢
          clear hnew
          refine wpAnyH_ready (rs := [4]) (by kernel_rfl) (by simp) ?_
          refine AllReadyH.cons (o := ?ok14) ?hk14 (fun K hK => ?sk14) AllReadyH.nil
          case hk14 => simp only [List.getElem?_toArray]; rfl
          case sk14 =>
            go_simp
            have hb := bel1 x13 (.cells #[.int .u8 116, .int .u8 101, .int .u8 120, .int .u8 116] 5)
            have gv : W1.heap.size ≤ x13.heap.size := hH.size
            have Lv : Hid (Lt (x13.alloc (.cells #[.int .u8 116, .int .u8 101, .int .u8 120, .int .u8 116] 5)) x13.heap.size [116, 101, 120, 116]) := lt_new x13 [116, 101, 120, 116]
            refine hK.out _ _ (hH.trans hb) (fun hH' => ?_)
            clear hK K hH
            have hH := hH'
            clear hH'
            try simp only [List.setIfInBounds_toArray, List.set]
            obtain ⟨x16, hnew⟩ : ∃ v, v = (x13.alloc (.cells #[.int .u8 116, .int .u8 101, .int .u8 120, .int .u8 116] 5)) := ⟨_, rfl⟩
            obtain ⟨bv, hbn⟩ : ∃ v, v = x13.heap.size := ⟨_, rfl⟩
            rw [← hnew] at hb Lv hH ⊢
            rw [← hbn] at Lv gv ⊢
            replace Rx : Hid (Rd x16 (some ⟨bx, 0, none⟩) 2 2 [97, 100]) := Rx.out.below hb
            clear hb hnew hbn
            refine wpAnyH_ready (rs := [5]) (by kernel_rfl) (by simp) ?_
            refine AllReadyH.cons (o := ?ok17) ?hk17 (fun K hK => ?sk17) AllReadyH.nil
            case hk17 => simp only [List.getElem?_toArray]; rfl
            case sk17 =>
              have hcv := conv_mark x16 bv [116, 101, 120, 116] 4 4 Lv.out
              simp only [List.length_cons, List.length_nil, Nat.zero_add, Nat.reduceAdd] at hcv
              go_simp
              clear hcv
              have Rv : Hid (Rd (x16.freeze ⟨bv, 4, none⟩ 1) (some ⟨bv, 0, none⟩) 4 4 [116, 101, 120, 116]) := (Lv.out.rd (byt5 _ (by decide)) 4 (by decide)).frz _ _
              refine hK.out _ _ (ext_frz hH bv 4 gv) (fun hH' => ?_)
              clear hK K hH
              have hH := hH'
              clear hH'
              try simp only [List.setIfInBounds_toArray, List.set]
              replace Rx : Hid (Rd (x16.freeze ⟨bv, 4, none⟩ 1) (some ⟨bx, 0, none⟩) 2 2 [97, 100]) := Rx.out.frz _ _
              clear Lv
              obtain ⟨x19, hnew⟩ : ∃ v, v = (x16.freeze ⟨bv, 4, none⟩ 1) := ⟨_, rfl⟩
              rw [← hnew] at hH Rv Rx ⊢
              clear hnew
              exact hrest x19 bx bv N ⟨hH, Rx, Rv, HN, HNn⟩
        case sk11 =>
          go_simp
          have hb := bel1 x9 (.cells #[.int .u8 116, .int .u8 101, .int .u8 120, .int .u8 116] 5)
          have gv : W1.heap.size ≤ x9.heap.size := hH.size
          have Lv : Hid (Lt (x9.alloc (.cells #[.int .u8 116, .int .u8 101, .int .u8 120, .int .u8 116] 5)) x9.heap.size [116, 101, 120, 116]) := lt_new x9 [116, 101, 120, 116]
          have nvx : bx ≠ x9.heap.size := Nat.ne_of_lt Lx.out.lt
          refine hK.out _ _ (hH.trans hb) (fun hH' => ?_)
          clear hK K hH
          have hH := hH'
          clear hH'
          try simp only [List.setIfInBounds_toArray, List.set]
          obtain ⟨x21, hnew⟩ : ∃ v, v = (x9.alloc (.cells #[.int .u8 116, .int .u8 101, .int .u8 120, .int .u8 116] 5)) := ⟨_, rfl⟩
          obtain ⟨bv, hbn⟩ : ∃ v, v = x9.heap.size := ⟨_, rfl⟩
          rw [← hnew] at hb Lv hH ⊢
          rw [← hbn] at Lv gv ⊢
          rw [← hbn] at nvx
          replace Lx : Hid (Lt x21 bx [97, 100]) := Lx.out.later hb
          clear hb hnew hbn
          refine wpAnyH_ready (rs := [3, 5]) (by kernel_rfl) (by simp) ?_
          refine AllReadyH.cons (o := ?ok22) ?hk22 (fun K hK => ?sk22) (AllReadyH.cons (o := ?ok23) ?hk23 (fun K hK => ?sk23) AllReadyH.nil)
          case hk22 => simp only [List.getElem?_toArray]; rfl
          case hk23 => simp only [List.getElem?_toArray]; rfl
          case sk22 =>
            have hcv := conv_mark x21 bx [97, 100] 2 2 Lx.out
            simp only [List.length_cons, List.length_nil, Nat.zero_add, Nat.reduceAdd] at hcv
            go_simp
            clear hcv
            have Rx : Hid (Rd (x21.freeze ⟨bx, 2, none⟩ 1) (some ⟨bx, 0, none⟩) 2 2 [97, 100]) := (Lx.out.rd (byt5 _ (by decide)) 2 (by decide)).frz _ _
            refine hK.out _ _ (ext_frz hH bx 2 gx) (fun hH' => ?_)
            clear hK K hH
            have hH := hH'
            clear hH'
            try simp only [List.setIfInBounds_toArray, List.set]
            replace Lv : Hid (Lt (x21.freeze ⟨bx, 2, none⟩ 1) bv [116, 101, 120, 116]) := Lv.out.frz bx 2 1 (by first | exact nxv | exact nvx.symm)
            clear Lx
            obtain ⟨x25, hnew⟩ : ∃ v, v = (x21.freeze ⟨bx, 2, none⟩ 1) := ⟨_, rfl⟩
            rw [← hnew] at hH Rx Lv ⊢
            clear hnew
            refine wpAnyH_ready (rs := [5]) (by kernel_rfl) (by simp) ?_
            refine AllReadyH.cons (o := ?ok26) ?hk26 (fun K hK => ?sk26) AllReadyH.nil
            case hk26 => simp only [List.getElem?_toArray]; rfl
            case sk26 =>
              have hcv := conv_mark x25 bv [116, 101, 120, 116] 4 4 Lv.out
              simp only [List.length_cons, List.length_nil, Nat.zero_add, Nat.reduceAdd] at hcv
              go_simp
              clear hcv
              have Rv : Hid (Rd (x25.freeze ⟨bv, 4, none⟩ 1) (some ⟨bv, 0, none⟩) 4 4 [116, 101, 120, 116]) := (Lv.out.rd (byt5 _ (by decide)) 4 (by decide)).frz _ _
              refine hK.out _ _ (ext_frz hH bv 4 gv) (fun hH' => ?_)
              clear hK K hH
              have hH := hH'
              clear hH'
              try simp only [List.setIfInBounds_toArray, List.set]
              replace Rx : Hid (Rd (x25.freeze ⟨bv, 4, none⟩ 1) (some ⟨bx, 0, none⟩) 2 2 [97, 100]) := Rx.out.frz _ _
              clear Lv
              obtain ⟨x28, hnew⟩ : ∃ v, v = (x25.freeze ⟨bv, 4, none⟩ 1) := ⟨_, rfl⟩
              rw [← hnew] at hH Rv Rx ⊢
              clear hnew
              exact hrest x28 bx bv N ⟨hH, Rx, Rv, HN, HNn⟩
          case sk23 =>
            have hcv := conv_mark x21 bv [116, 101, 120, 116] 4 4 Lv.out
            simp only [List.length_cons, List.length_nil, Nat.zero_add, Nat.reduceAdd] at hcv
            go_simp
            clear hcv
            have Rv : Hid (Rd (x21.freeze ⟨bv, 4, none⟩ 1) (some ⟨bv, 0, none⟩) 4 4 [116, 101, 120, 116]) := (Lv.out.rd (byt5 _ (by decide)) 4 (by decide)).frz _ _
            refine hK.out _ _ (ext_frz hH bv 4 gv) (fun hH' => ?_)
            clear hK K hH
            have hH := hH'
            clear hH'
            try simp only [List.setIfInBounds_toArray, List.set]
            replace Lx : Hid (Lt (x21.freeze ⟨bv, 4, none⟩ 1) bx [97, 100]) := Lx.out.frz bv 4 1 (by first | exact nvx | exact nxv.symm)
            clear Lv
            obtain ⟨x30, hnew⟩ : ∃ v, v = (x21.freeze ⟨bv, 4, none⟩ 1) := ⟨_, rfl⟩
            rw [← hnew] at hH Rv Lx ⊢
            clear hnew
            refine wpAnyH_ready (rs := [3]) (by kernel_rfl) (by simp) ?_
            refine AllReadyH.cons (o := ?ok31) ?hk31 (fun K hK => ?sk31) AllReadyH.nil
            case hk31 => simp only [List.getElem?_toArray]; rfl
            case sk31 =>
              have hcv := conv_mark x30 bx [97, 100] 2 2 Lx.out
              simp only [List.length_cons, List.length_nil, Nat.zero_add, Nat.reduceAdd] at hcv
              go_simp
              clear hcv
              have Rx : Hid (Rd (x30.freeze ⟨bx, 2, none⟩ 1) (some ⟨bx, 0, none⟩) 2 2 [97, 100]) := (Lx.out.rd (byt5 _ (by decide)) 2 (by decide)).frz _ _
              refine hK.out _ _ (ext_frz hH bx 2 gx) (fun hH' => ?_)
              clear hK K hH
              have hH := hH'
              clear hH'
              try simp only [List.setIfInBounds_toArray, List.set]
              replace Rv : Hid (Rd (x30.freeze ⟨bx, 2, none⟩ 1) (some ⟨bv, 0, none⟩) 4 4 [116, 101, 120, 116]) := Rv.out.frz _ _
              clear Lx
              obtain ⟨x33, hnew⟩ : ∃ v, v = (x30.freeze ⟨bx, 2, none⟩ 1) := ⟨_, rfl⟩
              rw [← hnew] at hH Rx Rv ⊢
              clear hnew
              exact hrest x33 bx bv N ⟨hH, Rx, Rv, HN, HNn⟩
      case sk7 =>
        go_simp
        have hb := bel1 V5 (.cells #[.int .u8 116, .int .u8 101, .int .u8 120, .int .u8 116] 5)
        have gv : W1.heap.size ≤ V5.heap.size := hH.size
        have Lv : Hid (Lt (V5.alloc (.cells #[.int .u8 116, .int .u8 101, .int .u8 120, .int .u8 116] 5)) V5.heap.size [116, 101, 120, 116]) := lt_new V5 [116, 101, 120, 116]
        refine hK.out _ _ (hH.trans hb) (fun hH' => ?_)
        clear hK K hH
        have hH := hH'
        clear hH'
        try simp only [List.setIfInBounds_toArray, List.set]
        obtain ⟨x35, hnew⟩ : ∃ v, v = (V5.alloc (.cells #[.int .u8 116, .int .u8 101, .int .u8 120, .int .u8 116] 5)) := ⟨_, rfl⟩
        obtain ⟨bv, hbn⟩ : ∃ v, v = V5.heap.size := ⟨_, rfl⟩
        rw [← hnew] at hb Lv hH ⊢
        rw [← hbn] at Lv gv ⊢
        clear hb hnew hbn
        refine wpAnyH_ready (rs := [2, 5]) (by kernel_rfl) (by simp) ?_
        refine AllReadyH.cons (o := ?ok36) ?hk36 (fun K hK => ?sk36) (AllReadyH.cons (o := ?ok37) ?hk37 (fun K hK => ?sk37) AllReadyH.nil)
        case hk36 => simp only [List.getElem?_toArray]; rfl
        case hk37 => simp only [List.getElem?_toArray]; rfl
        case sk36 =>
          go_simp
          have hb := bel1 x35 (.cells #[.int .u8 97, .int .u8 100] 5)
          have gx : W1.heap.size ≤ x35.heap.size := hH.size
          have Lx : Hid (Lt (x35.alloc (.cells #[.int .u8 97, .int .u8 100] 5)) x35.heap.size [97, 100]) := lt_new x35 [97, 100]
          have nxv : bv ≠ x35.heap.size := Nat.ne_of_lt Lv.out.lt
          refine hK.out _ _ (hH.trans hb) (fun hH' => ?_)
          clear hK K hH
          have hH := hH'
          clear hH'
          try simp only [List.setIfInBounds_toArray, List.set]
          obtain ⟨x39, hnew⟩ : ∃ v, v = (x35.alloc (.cells #[.int .u8 97, .int .u8 100] 5)) := ⟨_, rfl⟩
          obtain ⟨bx, hbn⟩ : ∃ v, v = x35.heap.size := ⟨_, rfl⟩
          rw [← hnew] at hb Lx hH ⊢
          rw [← hbn] at Lx gx ⊢
          rw [← hbn] at nxv
          replace Lv : Hid (Lt x39 bv [116, 101, 120, 116]) := Lv.out.later hb
          clear hb hnew hbn
          refine wpAnyH_ready (rs := [3, 5]) (by kernel_rfl) (by simp) ?_
          refine AllReadyH.cons (o := ?ok40) ?hk40 (fun K hK => ?sk40) (AllReadyH.cons (o := ?ok41) ?hk41 (fun K hK => ?sk41) AllReadyH.nil)
          case hk40 => simp only [List.getElem?_toArray]; rfl
          case hk41 => simp only [List.getElem?_toArray]; rfl
          case sk40 =>
            have hcv := conv_mark x39 bx [97, 100] 2 2 Lx.out
            simp only [List.length_cons, List.length_nil, Nat.zero_add, Nat.reduceAdd] at hcv
            go_simp
            clear hcv
            have Rx : Hid (Rd (x39.freeze ⟨bx, 2, none⟩ 1) (some ⟨bx, 0, none⟩) 2 2 [97, 100]) := (Lx.out.rd (byt5 _ (by decide)) 2 (by decide)).frz _ _
            refine hK.out _ _ (ext_frz hH bx 2 gx) (fun hH' => ?_)
            clear hK K hH
            have hH := hH'
            clear hH'
            try simp only [List.setIfInBounds_toArray, List.set]
            replace Lv : Hid (Lt (x39.freeze ⟨bx, 2, none⟩ 1) bv [116, 101, 120, 116]) := Lv.out.frz bx 2 1 (by first | exact nxv | exact nvx.symm)
            clear Lx
            obtain ⟨x43, hnew⟩ : ∃ v, v = (x39.freeze ⟨bx, 2, none⟩ 1) := ⟨_, rfl⟩
            rw [← hnew] at hH Rx Lv ⊢
            clear hnew
            refine wpAnyH_ready (rs := [5]) (by kernel_rfl) (by simp) ?_
            refine AllReadyH.cons (o := ?ok44) ?hk44 (fun K hK => ?sk44) AllReadyH.nil
            case hk44 => simp only [List.getElem?_toArray]; rfl
            case sk44 =>
              have hcv := conv_mark x43 bv [116, 101, 120, 116] 4 4 Lv.out
              simp only [List.length_cons, List.length_nil, Nat.zero_add, Nat.reduceAdd] at hcv
              go_simp
              clear hcv
              have Rv : Hid (Rd (x43.freeze ⟨bv, 4, none⟩ 1) (some ⟨bv, 0, none⟩) 4 4 [116, 101, 120, 116]) := (Lv.out.rd (byt5 _ (by decide)) 4 (by decide)).frz _ _
              refine hK.out _ _ (ext_frz hH bv 4 gv) (fun hH' => ?_)
              clear hK K hH
              have hH := hH'
              clear hH'
              try simp only [List.setIfInBounds_toArray, List.set]
              replace Rx : Hid (Rd (x43.freeze ⟨bv, 4, none⟩ 1) (some ⟨bx, 0, none⟩) 2 2 [97, 100]) := Rx.out.frz _ _
              clear Lv
              obtain ⟨x46, hnew⟩ : ∃ v, v = (x43.freeze ⟨bv, 4, none⟩ 1) := ⟨_, rfl⟩
              rw [← hnew] at hH Rv Rx ⊢
              clear hnew
              exact hrest x46 bx bv N ⟨hH, Rx, Rv, HN, HNn⟩
          case sk41 =>
            have hcv := conv_mark x39 bv [116, 101, 120, 116] 4 4 Lv.out
            simp only [List.length_cons, List.length_nil, Nat.zero_add, Nat.reduceAdd] at hcv
            go_simp
            clear hcv
            have Rv : Hid (Rd (x39.freeze ⟨bv, 4, none⟩ 1) (some ⟨bv, 0, none⟩) 4 4 [116, 101, 120, 116]) := (Lv.out.rd (byt5 _ (by decide)) 4 (by decide)).frz _ _
            refine hK.out _ _ (ext_frz hH bv 4 gv) (fun hH' => ?_)
            clear hK K hH
            have hH := hH'
            clear hH'
            try simp only [List.setIfInBounds_toArray, List.set]
            replace Lx : Hid (Lt (x39.freeze ⟨bv, 4, none⟩ 1) bx [97, 100]) := Lx.out.frz bv 4 1 (by first | exact nvx | exact nxv.symm)
            clear Lv
            obtain ⟨x48, hnew⟩ : ∃ v, v = (x39.freeze ⟨bv, 4, none⟩ 1) := ⟨_, rfl⟩
            rw [← hnew] at hH Rv Lx ⊢
            clear hnew
            refine wpAnyH_ready (rs := [3]) (by kernel_rfl) (by simp) ?_
            refine AllReadyH.cons (o := ?ok49) ?hk49 (fun K hK => ?sk49) AllReadyH.nil
            case hk49 => simp only [List.getElem?_toArray]; rfl
            case sk49 =>
              have hcv := conv_mark x48 bx [97, 100] 2 2 Lx.out
              simp only [List.length_cons, List.length_nil, Nat.zero_add, Nat.reduceAdd] at hcv
              go_simp
              clear hcv
              have Rx : Hid (Rd (x48.freeze ⟨bx, 2, none⟩ 1) (some ⟨bx, 0, none⟩) 2 2 [97, 100]) := (Lx.out.rd (byt5 _ (by decide)) 2 (by decide)).frz _ _
              refine hK.out _ _ (ext_frz hH bx 2 gx) (fun hH' => ?_)
              clear hK K hH
              have hH := hH'
              clear hH'
              try simp only [List.setIfInBounds_toArray, List.set]
              replace Rv : Hid (Rd (x48.freeze ⟨bx, 2, none⟩ 1) (some ⟨bv, 0, none⟩) 4 4 [116, 101, 120, 116]) := Rv.out.frz _ _
              clear Lx
              obtain ⟨x51, hnew⟩ : ∃ v, v = (x48.freeze ⟨bx, 2, none⟩ 1) := ⟨_, rfl⟩
              rw [← hnew] at hH Rx Rv ⊢
              clear hnew
              exact hrest x51 bx bv N ⟨hH, Rx, Rv, HN, HNn⟩
        case sk37 =>
          have hcv := conv_mark x35 bv [116, 101, 120, 116] 4 4 Lv.out
          simp only [List.length_cons, List.length_nil, Nat.zero_add, Nat.reduceAdd] at hcv
          go_simp
          clear hcv
          have Rv : Hid (Rd (x35.freeze ⟨bv, 4, none⟩ 1) (some ⟨bv, 0, none⟩) 4 4 [116, 101, 120, 116]) := (Lv.out.rd (byt5 _ (by decide)) 4 (by decide)).frz _ _
          refine hK.out _ _ (ext_frz hH bv 4 gv) (fun hH' => ?_)
          clear hK K hH
          have hH := hH'
          clear hH'
          try simp only [List.setIfInBounds_toArray, List.set]
          clear Lv
          obtain ⟨x53, hnew⟩ : ∃ v, v = (x35.freeze ⟨bv, 4, none⟩ 1) := ⟨_, rfl⟩
          rw [← hnew] at hH Rv ⊢
          clear hnew
          refine wpAnyH_ready (rs := [2]) (by kernel_rfl) (by simp) ?_
          refine AllReadyH.cons (o := ?ok54) ?hk54 (fun K hK => ?sk54) AllReadyH.nil
          case hk54 => simp only [List.getElem?_toArray]; rfl
          case sk54 =>
            go_simp
            have hb := bel1 x53 (.cells #[.int .u8 97, .int .u8 100] 5)
            have gx : W1.heap.size ≤ x53.heap.size := hH.size
            have Lx : Hid (Lt (x53.alloc (.cells #[.int .u8 97, .int .u8 100] 5)) x53.heap.size [97, 100]) := lt_new x53 [97, 100]
            refine hK.out _ _ (hH.trans hb) (fun hH' => ?_)
            clear hK K hH
            have hH := hH'
            clear hH'
            try simp only [List.setIfInBounds_toArray, List.set]
            obtain ⟨x56, hnew⟩ : ∃ v, v = (x53.alloc (.cells #[.int .u8 97, .int .u8 100] 5)) := ⟨_, rfl⟩
            obtain ⟨bx, hbn⟩ : ∃ v, v = x53.heap.size := ⟨_, rfl⟩
            rw [← hnew] at hb Lx hH ⊢
            rw [← hbn] at Lx gx ⊢
            replace Rv : Hid (Rd x56 (some ⟨bv, 0, none⟩) 4 4 [116, 101, 120, 116]) := Rv.out.below hb
            clear hb hnew hbn
            refine wpAnyH_ready (rs := [3]) (by kernel_rfl) (by simp) ?_
            refine AllReadyH.cons (o := ?ok57) ?hk57 (fun K hK => ?sk57) AllReadyH.nil
            case hk57 => simp only [List.getElem?_toArray]; rfl
            case sk57 =>
              have hcv := conv_mark x56 bx [97, 100] 2 2 Lx.out
              simp only [List.length_cons, List.length_nil, Nat.zero_add, Nat.reduceAdd] at hcv
              go_simp
              clear hcv
              have Rx : Hid (Rd (x56.freeze ⟨bx, 2, none⟩ 1) (some ⟨bx, 0, none⟩) 2 2 [97, 100]) := (Lx.out.rd (byt5 _ (by decide)) 2 (by decide)).frz _ _
              refine hK.out _ _ (ext_frz hH bx 2 gx) (fun hH' => ?_)
              clear hK K hH
              have hH := hH'
              clear hH'
              try simp only [List.setIfInBounds_toArray, List.set]
              replace Rv : Hid (Rd (x56.freeze ⟨bx, 2, none⟩ 1) (some ⟨bv, 0, none⟩) 4 4 [116, 101, 120, 116]) := Rv.out.frz _ _
              clear Lx
              obtain ⟨x59, hnew⟩ : ∃ v, v = (x56.freeze ⟨bx, 2, none⟩ 1) := ⟨_, rfl⟩
              rw [← hnew] at hH Rx Rv ⊢
              clear hnew
              exact hrest x59 bx bv N ⟨hH, Rx, Rv, HN, HNn⟩
    case sk2 =>
      go_simp
      have hb := bel1 y0 (.cells #[.int .u8 97, .int .u8 100] 5)
      have gx : W1.heap.size ≤ y0.heap.size := hH.size
      have Lx : Hid (Lt (y0.alloc (.cells #[.int .u8 97, .int .u8 100] 5)) y0.heap.size [97, 100]) := lt_new y0 [97, 100]
      refine hK.out _ _ (hH.trans hb) (fun hH' => ?_)
      clear hK K hH
      have hH := hH'
      clear hH'
      try simp only [List.setIfInBounds_toArray, List.set]
      obtain ⟨x61, hnew⟩ : ∃ v, v = (y0.alloc (.cells #[.int .u8 97, .int .u8 100] 5)) := ⟨_, rfl⟩
      obtain ⟨bx, hbn⟩ : ∃ v, v = y0.heap.size := ⟨_, rfl⟩
      rw [← hnew] at hb Lx hH ⊢
      rw [← hbn] at Lx gx ⊢
      clear hb hnew hbn
      refine wpAnyH_ready (rs := [1, 3, 4]) (by kernel_rfl) (by simp) ?_
      refine AllReadyH.cons (o := ?ok62) ?hk62 (fun K hK => ?sk62) (AllReadyH.cons (o := ?ok63) ?hk63 (fun K hK => ?sk63) (AllReadyH.cons (o := ?ok64) ?hk64 (fun K hK => ?sk64) AllReadyH.nil))
      case hk62 => simp only [List.getElem?_toArray]; rfl
      case hk63 => simp only [List.getElem?_toArray]; rfl
      case hk64 => simp only [List.getElem?_toArray]; rfl
      case sk62 =>
        go_simp
        refine (nonce_c 7 (by decide) (by decide) _).mono ?_
        rintro e V66 ⟨N, rfl, HN, HNn, hb⟩
        refine hK.out _ _ (hH.trans hb) (fun hH' => ?_)
        clear hK K hH
        have hH := hH'
        clear hH'
        try simp only [List.setIfInBounds_toArray, List.set]
        replace Lx : Hid (Lt V66 bx [97, 100]) := Lx.out.later hb
        clear hb
        refine wpAnyH_ready (rs := [3, 4]) (by kernel_rfl) (by simp) ?_
        refine AllReadyH.cons (o := ?ok67) ?hk67 (fun K hK => ?sk67) (AllReadyH.cons (o := ?ok68) ?hk68 (fun K hK => ?sk68) AllReadyH.nil)
        case hk67 => simp only [List.getElem?_toArray]; rfl
        case hk68 => simp only [List.getElem?_toArray]; rfl
        case sk67 =>
          have hcv := conv_mark V66 bx [97, 100] 2 2 Lx.out
          simp only [List.length_cons, List.length_nil, Nat.zero_add, Nat.reduceAdd] at hcv
          go_simp
          clear hcv
          have Rx : Hid (Rd (V66.freeze ⟨bx, 2, none⟩ 1) (some ⟨bx, 0, none⟩) 2 2 [97, 100]) := (Lx.out.rd (byt5 _ (by decide)) 2 (by decide)).frz _ _
          refine hK.out _ _ (ext_frz hH bx 2 gx) (fun hH' => ?_)
          clear hK K hH
          have hH := hH'
          clear hH'
          try simp only [List.setIfInBounds_toArray, List.set]
          clear Lx
          obtain ⟨x70, hnew⟩ : ∃ v, v = (V66.freeze ⟨bx, 2, none⟩ 1) := ⟨_, rfl⟩
          rw [← hnew] at hH Rx ⊢
          clear hnew
          refine wpAnyH_ready (rs := [4]) (by kernel_rfl) (by simp) ?_
          refine AllReadyH.cons (o := ?ok71) ?hk71 (fun K hK => ?sk71) AllReadyH.nil
          case hk71 => simp only [List.getElem?_toArray]; rfl
          case sk71 =>
            go_simp
            have hb := bel1 x70 (.cells #[.int .u8 116, .int .u8 101, .int .u8 120, .int .u8 116] 5)
            have gv : W1.heap.size ≤ x70.heap.size := hH.size
            have Lv : Hid (Lt (x70.alloc (.cells #[.int .u8 116, .int .u8 101, .int .u8 120, .int .u8 116] 5)) x70.heap.size [116, 101, 120, 116]) := lt_new x70 [116, 101, 120, 116]
            refine hK.out _ _ (hH.trans hb) (fun hH' => ?_)
            clear hK K hH
            have hH := hH'
            clear hH'
            try simp only [List.setIfInBounds_toArray, List.set]
            obtain ⟨x73, hnew⟩ : ∃ v, v = (x70.alloc (.cells #[.int .u8 116, .int .u8 101, .int .u8 120, .int .u8 116] 5)) := ⟨_, rfl⟩
            obtain ⟨bv, hbn⟩ : ∃ v, v = x70.heap.size := ⟨_, rfl⟩
            rw [← hnew] at hb Lv hH ⊢
            rw [← hbn] at Lv gv ⊢
            replace Rx : Hid (Rd x73 (some ⟨bx, 0, none⟩) 2 2 [97, 100]) := Rx.out.below hb
            clear hb hnew hbn
            refine wpAnyH_ready (rs := [5]) (by kernel_rfl) (by simp) ?_
            refine AllReadyH.cons (o := ?ok74) ?hk74 (fun K hK => ?sk74) AllReadyH.nil
            case hk74 => simp only [List.getElem?_toArray]; rfl
            case sk74 =>
              have hcv := conv_mark x73 bv [116, 101, 120, 116] 4 4 Lv.out
              simp only [List.length_cons, List.length_nil, Nat.zero_add, Nat.reduceAdd] at hcv
              go_simp
              clear hcv
              have Rv : Hid (Rd (x73.freeze ⟨bv, 4, none⟩ 1) (some ⟨bv, 0, none⟩) 4 4 [116, 101, 120, 116]) := (Lv.out.rd (byt5 _ (by decide)) 4 (by decide)).frz _ _
              refine hK.out _ _ (ext_frz hH bv 4 gv) (fun hH' => ?_)
              clear hK K hH
              have hH := hH'
              clear hH'
              try simp only [List.setIfInBounds_toArray, List.set]
              replace Rx : Hid (Rd (x73.freeze ⟨bv, 4, none⟩ 1) (some ⟨bx, 0, none⟩) 2 2 [97, 100]) := Rx.out.frz _ _
              clear Lv
              obtain ⟨x76, hnew⟩ : ∃ v, v = (x73.freeze ⟨bv, 4, none⟩ 1) := ⟨_, rfl⟩
              rw [← hnew] at hH Rv Rx ⊢
              clear hnew
              exact hrest x76 bx bv N ⟨hH, Rx, Rv, HN, HNn⟩
        case sk68 =>
          go_simp
          have hb := bel1 V66 (.cells #[.int .u8 116, .int .u8 101, .int .u8 120, .int .u8 116] 5)
          have gv : W1.heap.size ≤ V66.heap.size := hH.size
          have Lv : Hid (Lt (V66.alloc (.cells #[.int .u8 116, .int .u8 101, .int .u8 120, .int .u8 116] 5)) V66.heap.size [116, 101, 120, 116]) := lt_new V66 [116, 101, 120, 116]
          have nvx : bx ≠ V66.heap.size := Nat.ne_of_lt Lx.out.lt
          refine hK.out _ _ (hH.trans hb) (fun hH' => ?_)
          clear hK K hH
          have hH := hH'
          clear hH'
          try simp only [List.setIfInBounds_toArray, List.set]
          obtain ⟨x78, hnew⟩ : ∃ v, v = (V66.alloc (.cells #[.int .u8 116, .int .u8 101, .int .u8 120, .int .u8 116] 5)) := ⟨_, rfl⟩
          obtain ⟨bv, hbn⟩ : ∃ v, v = V66.heap.size := ⟨_, rfl⟩
          rw [← hnew] at hb Lv hH ⊢
          rw [← hbn] at Lv gv ⊢
          rw [← hbn] at nvx
          replace Lx : Hid (Lt x78 bx [97, 100]) := Lx.out.later hb
          clear hb hnew hbn
          refine wpAnyH_ready (rs := [3, 5]) (by kernel_rfl) (by simp) ?_
          refine AllReadyH.cons (o := ?ok79) ?hk79 (fun K hK => ?sk79) (AllReadyH.cons (o := ?ok80) ?hk80 (fun K hK => ?sk80) AllReadyH.nil)
          case hk79 => simp only [List.getElem?_toArray]; rfl
          case hk80 => simp only [List.getElem?_toArray]; rfl
          case sk79 =>
            have hcv := conv_mark x78 bx [97, 100] 2 2 Lx.out
            simp only [List.length_cons, List.length_nil, Nat.zero_add, Nat.reduceAdd] at hcv
            go_simp
            clear hcv
            have Rx : Hid (Rd (x78.freeze ⟨bx, 2, none⟩ 1) (some ⟨bx, 0, none⟩) 2 2 [97, 100]) := (Lx.out.rd (byt5 _ (by decide)) 2 (by decide)).frz _ _
            refine hK.out _ _ (ext_frz hH bx 2 gx) (fun hH' => ?_)
            clear hK K hH
            have hH := hH'
            clear hH'
            try simp only [List.setIfInBounds_toArray, List.set]
            replace Lv : Hid (Lt (x78.freeze ⟨bx, 2, none⟩ 1) bv [116, 101, 120, 116]) := Lv.out.frz bx 2 1 (by first | exact nxv | exact nvx.symm)
            clear Lx
            obtain ⟨x82, hnew⟩ : ∃ v, v = (x78.freeze ⟨bx, 2, none⟩ 1) := ⟨_, rfl⟩
            rw [← hnew] at hH Rx Lv ⊢
            clear hnew
            refine wpAnyH_ready (rs := [5]) (by kernel_rfl) (by simp) ?_
            refine AllReadyH.cons (o := ?ok83) ?hk83 (fun K hK => ?sk83) AllReadyH.nil
            case hk83 => simp only [List.getElem?_toArray]; rfl
            case sk83 =>
              have hcv := conv_mark x82 bv [116, 101, 120, 116] 4 4 Lv.out
              simp only [List.length_cons, List.length_nil, Nat.zero_add, Nat.reduceAdd] at hcv
              go_simp
              clear hcv
              have Rv : Hid (Rd (x82.freeze ⟨bv, 4, none⟩ 1) (some ⟨bv, 0, none⟩) 4 4 [116, 101, 120, 116]) := (Lv.out.rd (byt5 _ (by decide)) 4 (by decide)).frz _ _
              refine hK.out _ _ (ext_frz hH bv 4 gv) (fun hH' => ?_)
              clear hK K hH
              have hH := hH'
              clear hH'
              try simp only [List.setIfInBounds_toArray, List.set]
              replace Rx : Hid (Rd (x82.freeze ⟨bv, 4, none⟩ 1) (some ⟨bx, 0, none⟩) 2 2 [97, 100]) := Rx.out.frz _ _
              clear Lv
              obtain ⟨x85, hnew⟩ : ∃ v, v = (x82.freeze ⟨bv, 4, none⟩ 1) := ⟨_, rfl⟩
              rw [← hnew] at hH Rv Rx ⊢
              clear hnew
              exact hrest x85 bx bv N ⟨hH, Rx, Rv, HN, HNn⟩
          case sk80 =>
            have hcv := conv_mark x78 bv [116, 101, 120, 116] 4 4 Lv.out
            simp only [List.length_cons, List.length_nil, Nat.zero_add, Nat.reduceAdd] at hcv
            go_simp
            clear hcv
            have Rv : Hid (Rd (x78.freeze ⟨bv, 4, none⟩ 1) (some ⟨bv, 0, none⟩) 4 4 [116, 101, 120, 116]) := (Lv.out.rd (byt5 _ (by decide)) 4 (by decide)).frz _ _
            refine hK.out _ _ (ext_frz hH bv 4 gv) (fun hH' => ?_)
            clear hK K hH
            have hH := hH'
            clear hH'
            try simp only [List.setIfInBounds_toArray, List.set]
            replace Lx : Hid (Lt (x78.freeze ⟨bv, 4, none⟩ 1) bx [97, 100]) := Lx.out.frz bv 4 1 (by first | exact nvx | exact nxv.symm)
            clear Lv
            obtain ⟨x87, hnew⟩ : ∃ v, v = (x78.freeze ⟨bv, 4, none⟩ 1) := ⟨_, rfl⟩
            rw [← hnew] at hH Rv Lx ⊢
            clear hnew
            refine wpAnyH_ready (rs := [3]) (by kernel_rfl) (by simp) ?_
            refine AllReadyH.cons (o := ?ok88) ?hk88 (fun K hK => ?sk88) AllReadyH.nil
            case hk88 => simp only [List.getElem?_toArray]; rfl
            case sk88 =>
              have hcv := conv_mark x87 bx [97, 100] 2 2 Lx.out
              simp only [List.length_cons, List.length_nil, Nat.zero_add, Nat.reduceAdd] at hcv
              go_simp
              clear hcv
              have Rx : Hid (Rd (x87.freeze ⟨bx, 2, none⟩ 1) (some ⟨bx, 0, none⟩) 2 2 [97, 100]) := (Lx.out.rd (byt5 _ (by decide)) 2 (by decide)).frz _ _
              refine hK.out _ _ (ext_frz hH bx 2 gx) (fun hH' => ?_)
              clear hK K hH
              have hH := hH'
              clear hH'
              try simp only [List.setIfInBounds_toArray, List.set]
              replace Rv : Hid (Rd (x87.freeze ⟨bx, 2, none⟩ 1) (some ⟨bv, 0, none⟩) 4 4 [116, 101, 120, 116]) := Rv.out.frz _ _
              clear Lx
              obtain ⟨x90, hnew⟩ : ∃ v, v = (x87.freeze ⟨bx, 2, none⟩ 1) := ⟨_, rfl⟩
              rw [← hnew] at hH Rx Rv ⊢
              clear hnew
              exact hrest x90 bx bv N ⟨hH, Rx, Rv, HN, HNn⟩
      case sk63 =>
        have hcv := conv_mark x61 bx [97, 100] 2 2 Lx.out
        simp only [List.length_cons, List.length_nil, Nat.zero_add, Nat.reduceAdd] at hcv
        go_simp
        clear hcv
        have Rx : Hid (Rd (x61.freeze ⟨bx, 2, none⟩ 1) (some ⟨bx, 0, none⟩) 2 2 [97, 100]) := (Lx.out.rd (byt5 _ (by decide)) 2 (by decide)).frz _ _
        refine hK.out _ _ (ext_frz hH bx 2 gx) (fun hH' => ?_)
        clear hK K hH
        have hH := hH'
        clear hH'
        try simp only [List.setIfInBounds_toArray, List.set]
        clear Lx
        obtain ⟨x92, hnew⟩ : ∃ v, v = (x61.freeze ⟨bx, 2, none⟩ 1) := ⟨_, rfl⟩
        rw [← hnew] at hH Rx ⊢
        clear hnew
        refine wpAnyH_ready (rs := [1, 4]) (by kernel_rfl) (by simp) ?_
        refine AllReadyH.cons (o := ?ok93) ?hk93 (fun K hK => ?sk93) (AllReadyH.cons (o := ?ok94) ?hk94 (fun K hK => ?sk94) AllReadyH.nil)
        case hk93 => simp only [List.getElem?_toArray]; rfl
        case hk94 => simp only [List.getElem?_toArray]; rfl
        case sk93 =>
          go_simp
          refine (nonce_c 7 (by decide) (by decide) _).mono ?_
          rintro e V96 ⟨N, rfl, HN, HNn, hb⟩
          refine hK.out _ _ (hH.trans hb) (fun hH' => ?_)
          clear hK K hH
          have hH := hH'
          clear hH'
          try simp only [List.setIfInBounds_toArray, List.set]
          replace Rx : Hid (Rd V96 (some ⟨bx, 0, none⟩) 2 2 [97, 100]) := Rx.out.below hb
          clear hb
          refine wpAnyH_ready (rs := [4]) (by kernel_rfl) (by simp) ?_
          refine AllReadyH.cons (o := ?ok97) ?hk97 (fun K hK => ?sk97) AllReadyH.nil
          case hk97 => simp only [List.getElem?_toArray]; rfl
          case sk97 =>
            go_simp
            have hb := bel1 V96 (.cells #[.int .u8 116, .int .u8 101, .int .u8 120, .int .u8 116] 5)
            have gv : W1.heap.size ≤ V96.heap.size := hH.size
            have Lv : Hid (Lt (V96.alloc (.cells #[.int .u8 116, .int .u8 101, .int .u8 120, .int .u8 116] 5)) V96.heap.size [116, 101, 120, 116]) := lt_new V96 [116, 101, 120, 116]
            refine hK.out _ _ (hH.trans hb) (fun hH' => ?_)
            clear hK K hH
            have hH := hH'
            clear hH'
            try simp only [List.setIfInBounds_toArray, List.set]
            obtain ⟨x99, hnew⟩ : ∃ v, v = (V96.alloc (.cells #[.int .u8 116, .int .u8 101, .int .u8 120, .int .u8 116] 5)) := ⟨_, rfl⟩
            obtain ⟨bv, hbn⟩ : ∃ v, v = V96.heap.size := ⟨_, rfl⟩
            rw [← hnew] at hb Lv hH ⊢
            rw [← hbn] at Lv gv ⊢
            replace Rx : Hid (Rd x99 (some ⟨bx, 0, none⟩) 2 2 [97, 100]) := Rx.out.below hb
            clear hb hnew hbn
            refine wpAnyH_ready (rs := [5]) (by kernel_rfl) (by simp) ?_
            refine AllReadyH.cons (o := ?ok100) ?hk100 (fun K hK => ?sk100) AllReadyH.nil
            case hk100 => simp only [List.getElem?_toArray]; rfl
            case sk100 =>
              have hcv := conv_mark x99 bv [116, 101, 120, 116] 4 4 Lv.out
              simp only [List.length_cons, List.length_nil, Nat.zero_add, Nat.reduceAdd] at hcv
              go_simp
              clear hcv
              have Rv : Hid (Rd (x99.freeze ⟨bv, 4, none⟩ 1) (some ⟨bv, 0, none⟩) 4 4 [116, 101, 120, 116]) := (Lv.out.rd (byt5 _ (by decide)) 4 (by decide)).frz _ _
              refine hK.out _ _ (ext_frz hH bv 4 gv) (fun hH' => ?_)
              clear hK K hH
              have hH := hH'
              clear hH'
              try simp only [List.setIfInBounds_toArray, List.set]
              replace Rx : Hid (Rd (x99.freeze ⟨bv, 4, none⟩ 1) (some ⟨bx, 0, none⟩) 2 2 [97, 100]) := Rx.out.frz _ _
              clear Lv
              obtain ⟨x102, hnew⟩ : ∃ v, v = (x99.freeze ⟨bv, 4, none⟩ 1) := ⟨_, rfl⟩
              rw [← hnew] at hH Rv Rx ⊢
              clear hnew
              exact hrest x102 bx bv N ⟨hH, Rx, Rv, HN, HNn⟩
        case sk94 =>
          go_simp
          have hb := bel1 x92 (.cells #[.int .u8 116, .int .u8 101, .int .u8 120, .int .u8 116] 5)
          have gv : W1.heap.size ≤ x92.heap.size := hH.size
          have Lv : Hid (Lt (x92.alloc (.cells #[.int .u8 116, .int .u8 101, .int .u8 120, .int .u8 116] 5)) x92.heap.size [116, 101, 120, 116]) := lt_new x92 [116, 101, 120, 116]
          refine hK.out _ _ (hH.trans hb) (fun hH' => ?_)
          clear hK K hH
          have hH := hH'
          clear hH'
          try simp only [List.setIfInBounds_toArray, List.set]
          obtain ⟨x104, hnew⟩ : ∃ v, v = (x92.alloc (.cells #[.int .u8 116, .int .u8 101, .int .u8 120, .int .u8 116] 5)) := ⟨_, rfl⟩
          obtain ⟨bv, hbn⟩ : ∃ v, v = x92.heap.size := ⟨_, rfl⟩
          rw [← hnew] at hb Lv hH ⊢
          rw [← hbn] at Lv gv ⊢
          replace Rx : Hid (Rd x104 (some ⟨bx, 0, none⟩) 2 2 [97, 100]) := Rx.out.below hb
          clear hb hnew hbn
          refine wpAnyH_ready (rs := [1, 5]) (by kernel_rfl) (by simp) ?_
          refine AllReadyH.cons (o := ?ok105) ?hk105 (fun K hK => ?sk105) (AllReadyH.cons (o := ?ok106) ?hk106 (fun K hK => ?sk106) AllReadyH.nil)
          case hk105 => simp only [List.getElem?_toArray]; rfl
          case hk106 => simp only [List.getElem?_toArray]; rfl
          case sk105 =>
            go_simp
            refine (nonce_c 7 (by decide) (by decide) _).mono ?_
            rintro e V108 ⟨N, rfl, HN, HNn, hb⟩
            refine hK.out _ _ (hH.trans hb) (fun hH' => ?_)
            clear hK K hH
            have hH := hH'
            clear hH'
            try simp only [List.setIfInBounds_toArray, List.set]
            replace Rx : Hid (Rd V108 (some ⟨bx, 0, none⟩) 2 2 [97, 100]) := Rx.out.below hb
            replace Lv : Hid (Lt V108 bv [116, 101, 120, 116]) := Lv.out.later hb
            clear hb
            refine wpAnyH_ready (rs := [5]) (by kernel_rfl) (by simp) ?_
            refine AllReadyH.cons (o := ?ok109) ?hk109 (fun K hK => ?sk109) AllReadyH.nil
            case hk109 => simp only [List.getElem?_toArray]; rfl
            case sk109 =>
              have hcv := conv_mark V108 bv [116, 101, 120, 116] 4 4 Lv.out
              simp only [List.length_cons, List.length_nil, Nat.zero_add, Nat.reduceAdd] at hcv
              go_simp
              clear hcv
              have Rv : Hid (Rd (V108.freeze ⟨bv, 4, none⟩ 1) (some ⟨bv, 0, none⟩) 4 4 [116, 101, 120, 116]) := (Lv.out.rd (byt5 _ (by decide)) 4 (by decide)).frz _ _
              refine hK.out _ _ (ext_frz hH bv 4 gv) (fun hH' => ?_)
              clear hK K hH
              have hH := hH'
              clear hH'
              try simp only [List.setIfInBounds_toArray, List.set]
              replace Rx : Hid (Rd (V108.freeze ⟨bv, 4, none⟩ 1) (some ⟨bx, 0, none⟩) 2 2 [97, 100]) := Rx.out.frz _ _
              clear Lv
              obtain ⟨x111, hnew⟩ : ∃ v, v = (V108.freeze ⟨bv, 4, none⟩ 1) := ⟨_, rfl⟩
              rw [← hnew] at hH Rv Rx ⊢
              clear hnew
              exact hrest x111 bx bv N ⟨hH, Rx, Rv, HN, HNn⟩
          case sk106 =>
            have hcv := conv_mark x104 bv [116, 101, 120, 116] 4 4 Lv.out
            simp only [List.length_cons, List.length_nil, Nat.zero_add, Nat.reduceAdd] at hcv
            go_simp
            clear hcv
            have Rv : Hid (Rd (x104.freeze ⟨bv, 4, none⟩ 1) (some ⟨bv, 0, none⟩) 4 4 [116, 101, 120, 116]) := (Lv.out.rd (byt5 _ (by decide)) 4 (by decide)).frz _ _
            refine hK.out _ _ (ext_frz hH bv 4 gv) (fun hH' => ?_)
            clear hK K hH
            have hH := hH'
            clear hH'
            try simp only [List.setIfInBounds_toArray, List.set]
            replace Rx : Hid (Rd (x104.freeze ⟨bv, 4, none⟩ 1) (some ⟨bx, 0, none⟩) 2 2 [97, 100]) := Rx.out.frz _ _
            clear Lv
            obtain ⟨x113, hnew⟩ : ∃ v, v = (x104.freeze ⟨bv, 4, none⟩ 1) := ⟨_, rfl⟩
            rw [← hnew] at hH Rv Rx ⊢
            clear hnew
            refine wpAnyH_ready (rs := [1]) (by kernel_rfl) (by simp) ?_
            refine AllReadyH.cons (o := ?ok114) ?hk114 (fun K hK => ?sk114) AllReadyH.nil
            case hk114 => simp only [List.getElem?_toArray]; rfl
            case sk114 =>
              go_simp
              refine (nonce_c 7 (by decide) (by decide) _).mono ?_
              rintro e V116 ⟨N, rfl, HN, HNn, hb⟩
              refine hK.out _ _ (hH.trans hb) (fun hH' => ?_)
              clear hK K hH
              have hH := hH'
              clear hH'
              try simp only [List.setIfInBounds_toArray, List.set]
              replace Rx : Hid (Rd V116 (some ⟨bx, 0, none⟩) 2 2 [97, 100]) := Rx.out.below hb
              replace Rv : Hid (Rd V116 (some ⟨bv, 0, none⟩) 4 4 [116, 101, 120, 116]) := Rv.out.below hb
              clear hb
              exact hrest V116 bx bv N ⟨hH, Rx, Rv, HN, HNn⟩
      case sk64 =>
        go_simp
        have hb := bel1 x61 (.cells #[.int .u8 116, .int .u8 101, .int .u8 120, .int .u8 116] 5)
        have gv : W1.heap.size ≤ x61.heap.size := hH.size
        have Lv : Hid (Lt (x61.alloc (.cells #[.int .u8 116, .int .u8 101, .int .u8 120, .int .u8 116] 5)) x61.heap.size [116, 101, 120, 116]) := lt_new x61 [116, 101, 120, 116]
        have nvx : bx ≠ x61.heap.size := Nat.ne_of_lt Lx.out.lt
        refine hK.out _ _ (hH.trans hb) (fun hH' => ?_)
        clear hK K hH
        have hH := hH'
        clear hH'
        try simp only [List.setIfInBounds_toArray, List.set]
        obtain ⟨x118, hnew⟩ : ∃ v, v = (x61.alloc (.cells #[.int .u8 116, .int .u8 101, .int .u8 120, .int .u8 116] 5)) := ⟨_, rfl⟩
        obtain ⟨bv, hbn⟩ : ∃ v, v = x61.heap.size := ⟨_, rfl⟩
        rw [← hnew] at hb Lv hH ⊢
        rw [← hbn] at Lv gv ⊢
        rw [← hbn] at nvx
        replace Lx : Hid (Lt x118 bx [97, 100]) := Lx.out.later hb
        clear hb hnew hbn
        refine wpAnyH_ready (rs := [1, 3, 5]) (by kernel_rfl) (by simp) ?_
        refine AllReadyH.cons (o := ?ok119) ?hk119 (fun K hK => ?sk119) (AllReadyH.cons (o := ?ok120) ?hk120 (fun K hK => ?sk120) (AllReadyH.cons (o := ?ok121) ?hk121 (fun K hK => ?sk121) AllReadyH.nil))
        case hk119 => simp only [List.getElem?_toArray]; rfl
        case hk120 => simp only [List.getElem?_toArray]; rfl
        case hk121 => simp only [List.getElem?_toArray]; rfl
        case sk119 =>
          go_simp
          refine (nonce_c 7 (by decide) (by decide) _).mono ?_
          rintro e V123 ⟨N, rfl, HN, HNn, hb⟩
          refine hK.out _ _ (hH.trans hb) (fun hH' => ?_)
          clear hK K hH
          have hH := hH'
          clear hH'
          try simp only [List.setIfInBounds_toArray, List.set]
          replace Lx : Hid (Lt V123 bx [97, 100]) := Lx.out.later hb
          replace Lv : Hid (Lt V123 bv [116, 101, 120, 116]) := Lv.out.later hb
          clear hb
          refine wpAnyH_ready (rs := [3, 5]) (by kernel_rfl) (by simp) ?_
          refine AllReadyH.cons (o := ?ok124) ?hk124 (fun K hK => ?sk124) (AllReadyH.cons (o := ?ok125) ?hk125 (fun K hK => ?sk125) AllReadyH.nil)
          case hk124 => simp only [List.getElem?_toArray]; rfl
          case hk125 => simp only [List.getElem?_toArray]; rfl
          case sk124 =>
            have hcv := conv_mark V123 bx [97, 100] 2 2 Lx.out
            simp only [List.length_cons, List.length_nil, Nat.zero_add, Nat.reduceAdd] at hcv
            go_simp
            clear hcv
            have Rx : Hid (Rd (V123.freeze ⟨bx, 2, none⟩ 1) (some ⟨bx, 0, none⟩) 2 2 [97, 100]) := (Lx.out.rd (byt5 _ (by decide)) 2 (by decide)).frz _ _
            refine hK.out _ _ (ext_frz hH bx 2 gx) (fun hH' => ?_)
            clear hK K hH
            have hH := hH'
            clear hH'
            try simp only [List.setIfInBounds_toArray, List.set]
            replace Lv : Hid (Lt (V123.freeze ⟨bx, 2, none⟩ 1) bv [116, 101, 120, 116]) := Lv.out.frz bx 2 1 (by first | exact nxv | exact nvx.symm)
            clear Lx
            obtain ⟨x127, hnew⟩ : ∃ v, v = (V123.freeze ⟨bx, 2, none⟩ 1) := ⟨_, rfl⟩
            rw [← hnew] at hH Rx Lv ⊢
            clear hnew
            refine wpAnyH_ready (rs := [5]) (by kernel_rfl) (by simp) ?_
            refine AllReadyH.cons (o := ?ok128) ?hk128 (fun K hK => ?sk128) AllReadyH.nil
            case hk128 => simp only [List.getElem?_toArray]; rfl
            case sk128 =>
              have hcv := conv_mark x127 bv [116, 101, 120, 116] 4 4 Lv.out
              simp only [List.length_cons, List.length_nil, Nat.zero_add, Nat.reduceAdd] at hcv
              go_simp
              clear hcv
              have Rv : Hid (Rd (x127.freeze ⟨bv, 4, none⟩ 1) (some ⟨bv, 0, none⟩) 4 4 [116, 101, 120, 116]) := (Lv.out.rd (byt5 _ (by decide)) 4 (by decide)).frz _ _
              refine hK.out _ _ (ext_frz hH bv 4 gv) (fun hH' => ?_)
              clear hK K hH
              have hH := hH'
              clear hH'
              try simp only [List.setIfInBounds_toArray, List.set]
              replace Rx : Hid (Rd (x127.freeze ⟨bv, 4, none⟩ 1) (some ⟨bx, 0, none⟩) 2 2 [97, 100]) := Rx.out.frz _ _
              clear Lv
              obtain ⟨x130, hnew⟩ : ∃ v, v = (x127.freeze ⟨bv, 4, none⟩ 1) := ⟨_, rfl⟩
              rw [← hnew] at hH Rv Rx ⊢
              clear hnew
              exact hrest x130 bx bv N ⟨hH, Rx, Rv, HN, HNn⟩
          case sk125 =>
            have hcv := conv_mark V123 bv [116, 101, 120, 116] 4 4 Lv.out
            simp only [List.length_cons, List.length_nil, Nat.zero_add, Nat.reduceAdd] at hcv
            go_simp
            clear hcv
            have Rv : Hid (Rd (V123.freeze ⟨bv, 4, none⟩ 1) (some ⟨bv, 0, none⟩) 4 4 [116, 101, 120, 116]) := (Lv.out.rd (byt5 _ (by decide)) 4 (by decide)).frz _ _
            refine hK.out _ _ (ext_frz hH bv 4 gv) (fun hH' => ?_)
            clear hK K hH
            have hH := hH'
            clear hH'
            try simp only [List.setIfInBounds_toArray, List.set]
            replace Lx : Hid (Lt (V123.freeze ⟨bv, 4, none⟩ 1) bx [97, 100]) := Lx.out.frz bv 4 1 (by first | exact nvx | exact nxv.symm)
            clear Lv
            obtain ⟨x132, hnew⟩ : ∃ v, v = (V123.freeze ⟨bv, 4, none⟩ 1) := ⟨_, rfl⟩
            rw [← hnew] at hH Rv Lx ⊢
            clear hnew
            refine wpAnyH_ready (rs := [3]) (by kernel_rfl) (by simp) ?_
            refine AllReadyH.cons (o := ?ok133) ?hk133 (fun K hK => ?sk133) AllReadyH.nil
            case hk133 => simp only [List.getElem?_toArray]; rfl
            case sk133 =>
              have hcv := conv_mark x132 bx [97, 100] 2 2 Lx.out
              simp only [List.length_cons, List.length_nil, Nat.zero_add, Nat.reduceAdd] at hcv
              go_simp
              clear hcv
              have Rx : Hid (Rd (x132.freeze ⟨bx, 2, none⟩ 1) (some ⟨bx, 0, none⟩) 2 2 [97, 100]) := (Lx.out.rd (byt5 _ (by decide)) 2 (by decide)).frz _ _
              refine hK.out _ _ (ext_frz hH bx 2 gx) (fun hH' => ?_)
              clear hK K hH
              have hH := hH'
              clear hH'
              try simp only [List.setIfInBounds_toArray, List.set]
              replace Rv : Hid (Rd (x132.freeze ⟨bx, 2, none⟩ 1) (some ⟨bv, 0, none⟩) 4 4 [116, 101, 120, 116]) := Rv.out.frz _ _
              clear Lx
              obtain ⟨x135, hnew⟩ : ∃ v, v = (x132.freeze ⟨bx, 2, none⟩ 1) := ⟨_, rfl⟩
              rw [← hnew] at hH Rx Rv ⊢
              clear hnew
              exact hrest x135 bx bv N ⟨hH, Rx, Rv, HN, HNn⟩
        case sk120 =>
          have hcv := conv_mark x118 bx [97, 100] 2 2 Lx.out
          simp only [List.length_cons, List.length_nil, Nat.zero_add, Nat.reduceAdd] at hcv
          go_simp
          clear hcv
          have Rx : Hid (Rd (x118.freeze ⟨bx, 2, none⟩ 1) (some ⟨bx, 0, none⟩) 2 2 [97, 100]) := (Lx.out.rd (byt5 _ (by decide)) 2 (by decide)).frz _ _
          refine hK.out _ _ (ext_frz hH bx 2 gx) (fun hH' => ?_)
          clear hK K hH
          have hH := hH'
          clear hH'
          try simp only [List.setIfInBounds_toArray, List.set]
          replace Lv : Hid (Lt (x118.freeze ⟨bx, 2, none⟩ 1) bv [116, 101, 120, 116]) := Lv.out.frz bx 2 1 (by first | exact nxv | exact nvx.symm)
          clear Lx
          obtain ⟨x137, hnew⟩ : ∃ v, v = (x118.freeze ⟨bx, 2, none⟩ 1) := ⟨_, rfl⟩
          rw [← hnew] at hH Rx Lv ⊢
          clear hnew
          refine wpAnyH_ready (rs := [1, 5]) (by kernel_rfl) (by simp) ?_
          refine AllReadyH.cons (o := ?ok138) ?hk138 (fun K hK => ?sk138) (AllReadyH.cons (o := ?ok139) ?hk139 (fun K hK => ?sk139) AllReadyH.nil)
          case hk138 => simp only [List.getElem?_toArray]; rfl
          case hk139 => simp only [List.getElem?_toArray]; rfl
          case sk138 =>
            go_simp
            refine (nonce_c 7 (by decide) (by decide) _).mono ?_
            rintro e V141 ⟨N, rfl, HN, HNn, hb⟩
            refine hK.out _ _ (hH.trans hb) (fun hH' => ?_)
            clear hK K hH
            have hH := hH'
            clear hH'
            try simp only [List.setIfInBounds_toArray, List.set]
            replace Rx : Hid (Rd V141 (some ⟨bx, 0, none⟩) 2 2 [97, 100]) := Rx.out.below hb
            replace Lv : Hid (Lt V141 bv [116, 101, 120, 116]) := Lv.out.later hb
            clear hb
            refine wpAnyH_ready (rs := [5]) (by kernel_rfl) (by simp) ?_
            refine AllReadyH.cons (o := ?ok142) ?hk142 (fun K hK => ?sk142) AllReadyH.nil
            case hk142 => simp only [List.getElem?_toArray]; rfl
            case sk142 =>
              have hcv := conv_mark V141 bv [116, 101, 120, 116] 4 4 Lv.out
              simp only [List.length_cons, List.length_nil, Nat.zero_add, Nat.reduceAdd] at hcv
              go_simp
              clear hcv
              have Rv : Hid (Rd (V141.freeze ⟨bv, 4, none⟩ 1) (some ⟨bv, 0, none⟩) 4 4 [116, 101, 120, 116]) := (Lv.out.rd (byt5 _ (by decide)) 4 (by decide)).frz _ _
              refine hK.out _ _ (ext_frz hH bv 4 gv) (fun hH' => ?_)
              clear hK K hH
              have hH := hH'
              clear hH'
              try simp only [List.setIfInBounds_toArray, List.set]
              replace Rx : Hid (Rd (V141.freeze ⟨bv, 4, none⟩ 1) (some ⟨bx, 0, none⟩) 2 2 [97, 100]) := Rx.out.frz _ _
              clear Lv
              obtain ⟨x144, hnew⟩ : ∃ v, v = (V141.freeze ⟨bv, 4, none⟩ 1) := ⟨_, rfl⟩
              rw [← hnew] at hH Rv Rx ⊢
              clear hnew
              exact hrest x144 bx bv N ⟨hH, Rx, Rv, HN, HNn⟩
          case sk139 =>
            have hcv := conv_mark x137 bv [116, 101, 120, 116] 4 4 Lv.out
            simp only [List.length_cons, List.length_nil, Nat.zero_add, Nat.reduceAdd] at hcv
            go_simp
            clear hcv
            have Rv : Hid (Rd (x137.freeze ⟨bv, 4, none⟩ 1) (some ⟨bv, 0, none⟩) 4 4 [116, 101, 120, 116]) := (Lv.out.rd (byt5 _ (by decide)) 4 (by decide)).frz _ _
            refine hK.out _ _ (ext_frz hH bv 4 gv) (fun hH' => ?_)
            clear hK K hH
            have hH := hH'
            clear hH'
            try simp only [List.setIfInBounds_toArray, List.set]
            replace Rx : Hid (Rd (x137.freeze ⟨bv, 4, none⟩ 1) (some ⟨bx, 0, none⟩) 2 2 [97, 100]) := Rx.out.frz _ _
            clear Lv
            obtain ⟨x146, hnew⟩ : ∃ v, v = (x137.freeze ⟨bv, 4, none⟩ 1) := ⟨_, rfl⟩
            rw [← hnew] at hH Rv Rx ⊢
            clear hnew
            refine wpAnyH_ready (rs := [1]) (by kernel_rfl) (by simp) ?_
            refine AllReadyH.cons (o := ?ok147) ?hk147 (fun K hK => ?sk147) AllReadyH.nil
            case hk147 => simp only [List.getElem?_toArray]; rfl
            case sk147 =>
              go_simp
              refine (nonce_c 7 (by decide) (by decide) _).mono ?_
              rintro e V149 ⟨N, rfl, HN, HNn, hb⟩
              refine hK.out _ _ (hH.trans hb) (fun hH' => ?_)
              clear hK K hH
              have hH := hH'
              clear hH'
              try simp only [List.setIfInBounds_toArray, List.set]
              replace Rx : Hid (Rd V149 (some ⟨bx, 0, none⟩) 2 2 [97, 100]) := Rx.out.below hb
              replace Rv : Hid (Rd V149 (some ⟨bv, 0, none⟩) 4 4 [116, 101, 120, 116]) := Rv.out.below hb
              clear hb
              exact hrest V149 bx bv N ⟨hH, Rx, Rv, HN, HNn⟩
        case sk121 =>
          have hcv := conv_mark x118 bv [116, 101, 120, 116] 4 4 Lv.out
          simp only [List.length_cons, List.length_nil, Nat.zero_add, Nat.reduceAdd] at hcv
          go_simp
          clear hcv
          have Rv : Hid (Rd (x118.freeze ⟨bv, 4, none⟩ 1) (some ⟨bv, 0, none⟩) 4 4 [116, 101, 120, 116]) := (Lv.out.rd (byt5 _ (by decide)) 4 (by decide)).frz _ _
          refine hK.out _ _ (ext_frz hH bv 4 gv) (fun hH' => ?_)
          clear hK K hH
          have hH := hH'
          clear hH'
          try simp only [List.setIfInBounds_toArray, List.set]
          replace Lx : Hid (Lt (x118.freeze ⟨bv, 4, none⟩ 1) bx [97, 100]) := Lx.out.frz bv 4 1 (by first | exact nvx | exact nxv.symm)
          clear Lv
          obtain ⟨x151, hnew⟩ : ∃ v, v = (x118.freeze ⟨bv, 4, none⟩ 1) := ⟨_, rfl⟩
          rw [← hnew] at hH Rv Lx ⊢
          clear hnew
          refine wpAnyH_ready (rs := [1, 3]) (by kernel_rfl) (by simp) ?_
          refine AllReadyH.cons (o := ?ok152) ?hk152 (fun K hK => ?sk152) (AllReadyH.cons (o := ?ok153) ?hk153 (fun K hK => ?sk153) AllReadyH.nil)
          case hk152 => simp only [List.getElem?_toArray]; rfl
          case hk153 => simp only [List.getElem?_toArray]; rfl
          case sk152 =>
            go_simp
            refine (nonce_c 7 (by decide) (by decide) _).mono ?_
            rintro e V155 ⟨N, rfl, HN, HNn, hb⟩
            refine hK.out _ _ (hH.trans hb) (fun hH' => ?_)
            clear hK K hH
            have hH := hH'
            clear hH'
            try simp only [List.setIfInBounds_toArray, List.set]
            replace Lx : Hid (Lt V155 bx [97, 100]) := Lx.out.later hb
            replace Rv : Hid (Rd V155 (some ⟨bv, 0, none⟩) 4 4 [116, 101, 120, 116]) := Rv.out.below hb
            clear hb
            refine wpAnyH_ready (rs := [3]) (by kernel_rfl) (by simp) ?_
            refine AllReadyH.cons (o := ?ok156) ?hk156 (fun K hK => ?sk156) AllReadyH.nil
            case hk156 => simp only [List.getElem?_toArray]; rfl
            case sk156 =>
              have hcv := conv_mark V155 bx [97, 100] 2 2 Lx.out
              simp only [List.length_cons, List.length_nil, Nat.zero_add, Nat.reduceAdd] at hcv
              go_simp
              clear hcv
              have Rx : Hid (Rd (V155.freeze ⟨bx, 2, none⟩ 1) (some ⟨bx, 0, none⟩) 2 2 [97, 100]) := (Lx.out.rd (byt5 _ (by decide)) 2 (by decide)).frz _ _
              refine hK.out _ _ (ext_frz hH bx 2 gx) (fun hH' => ?_)
              clear hK K hH
              have hH := hH'
              clear hH'
              try simp only [List.setIfInBounds_toArray, List.set]
              replace Rv : Hid (Rd (V155.freeze ⟨bx, 2, none⟩ 1) (some ⟨bv, 0, none⟩) 4 4 [116, 101, 120, 116]) := Rv.out.frz _ _
              clear Lx
              obtain ⟨x158, hnew⟩ : ∃ v, v = (V155.freeze ⟨bx, 2, none⟩ 1) := ⟨_, rfl⟩
              rw [← hnew] at hH Rx Rv ⊢
              clear hnew
              exact hrest x158 bx bv N ⟨hH, Rx, Rv, HN, HNn⟩
          case sk153 =>
            have hcv := conv_mark x151 bx [97, 100] 2 2 Lx.out
            simp only [List.length_cons, List.length_nil, Nat.zero_add, Nat.reduceAdd] at hcv
            go_simp
            clear hcv
            have Rx : Hid (Rd (x151.freeze ⟨bx, 2, none⟩ 1) (some ⟨bx, 0, none⟩) 2 2 [97, 100]) := (Lx.out.rd (byt5 _ (by decide)) 2 (by decide)).frz _ _
            refine hK.out _ _ (ext_frz hH bx 2 gx) (fun hH' => ?_)
            clear hK K hH
            have hH := hH'
            clear hH'
            try simp only [List.setIfInBounds_toArray, List.set]
            replace Rv : Hid (Rd (x151.freeze ⟨bx, 2, none⟩ 1) (some ⟨bv, 0, none⟩) 4 4 [116, 101, 120, 116]) := Rv.out.frz _ _
            clear Lx
            obtain ⟨x160, hnew⟩ : ∃ v, v = (x151.freeze ⟨bx, 2, none⟩ 1) := ⟨_, rfl⟩
            rw [← hnew] at hH Rx Rv ⊢
            clear hnew
            refine wpAnyH_ready (rs := [1]) (by kernel_rfl) (by simp) ?_
            refine AllReadyH.cons (o := ?ok161) ?hk161 (fun K hK => ?sk161) AllReadyH.nil
            case hk161 => simp only [List.getElem?_toArray]; rfl
            case sk161 =>
              go_simp
              refine (nonce_c 7 (by decide) (by decide) _).mono ?_
              rintro e V163 ⟨N, rfl, HN, HNn, hb⟩
              refine hK.out _ _ (hH.trans hb) (fun hH' => ?_)
              clear hK K hH
              have hH := hH'
              clear hH'
              try simp only [List.setIfInBounds_toArray, List.set]
              replace Rx : Hid (Rd V163 (some ⟨bx, 0, none⟩) 2 2 [97, 100]) := Rx.out.below hb
              replace Rv : Hid (Rd V163 (some ⟨bv, 0, none⟩) 4 4 [116, 101, 120, 116]) := Rv.out.below hb
              clear hb
              exact hrest V163 bx bv N ⟨hH, Rx, Rv, HN, HNn⟩
    case sk3 =>
      go_simp
      have hb := bel1 y0 (.cells #[.int .u8 116, .int .u8 101, .int .u8 120, .int .u8 116] 5)
      have gv : W1.heap.size ≤ y0.heap.size := hH.size
      have Lv : Hid (Lt (y0.alloc (.cells #[.int .u8 116, .int .u8 101, .int .u8 120, .int .u8 116] 5)) y0.heap.size [116, 101, 120, 116]) := lt_new y0 [116, 101, 120, 116]
      refine hK.out _ _ (hH.trans hb) (fun hH' => ?_)
      clear hK K hH
      have hH := hH'
      clear hH'
      try simp only [List.setIfInBounds_toArray, List.set]
      obtain ⟨x165, hnew⟩ : ∃ v, v = (y0.alloc (.cells #[.int .u8 116, .int .u8 101, .int .u8 120, .int .u8 116] 5)) := ⟨_, rfl⟩
      obtain ⟨bv, hbn⟩ : ∃ v, v = y0.heap.size := ⟨_, rfl⟩
      rw [← hnew] at hb Lv hH ⊢
      rw [← hbn] at Lv gv ⊢
      clear hb hnew hbn
      refine wpAnyH_ready (rs := [1, 2, 5]) (by kernel_rfl) (by simp) ?_
      refine AllReadyH.cons (o := ?ok166) ?hk166 (fun K hK => ?sk166) (AllReadyH.cons (o := ?ok167) ?hk167 (fun K hK => ?sk167) (AllReadyH.cons (o := ?ok168) ?hk168 (fun K hK => ?sk168) AllReadyH.nil))
      case hk166 => simp only [List.getElem?_toArray]; rfl
      case hk167 => simp only [List.getElem?_toArray]; rfl
      case hk168 => simp only [List.getElem?_toArray]; rfl
      case sk166 =>
        go_simp
        refine (nonce_c 7 (by decide) (by decide) _).mono ?_
        rintro e V170 ⟨N, rfl, HN, HNn, hb⟩
        refine hK.out _ _ (hH.trans hb) (fun hH' => ?_)
        clear hK K hH
        have hH := hH'
        clear hH'
        try simp only [List.setIfInBounds_toArray, List.set]
        replace Lv : Hid (Lt V170 bv [116, 101, 120, 116]) := Lv.out.later hb
        clear hb
        refine wpAnyH_ready (rs := [2, 5]) (by kernel_rfl) (by simp) ?_
        refine AllReadyH.cons (o := ?ok171) ?hk171 (fun K hK => ?sk171) (AllReadyH.cons (o := ?ok172) ?hk172 (fun K hK => ?sk172) AllReadyH.nil)
        case hk171 => simp only [List.getElem?_toArray]; rfl
        case hk172 => simp only [List.getElem?_toArray]; rfl
        case sk171 =>
          go_simp
          have hb := bel1 V170 (.cells #[.int .u8 97, .int .u8 100] 5)
          have gx : W1.heap.size ≤ V170.heap.size := hH.size
          have Lx : Hid (Lt (V170.alloc (.cells #[.int .u8 97, .int .u8 100] 5)) V170.heap.size [97, 100]) := lt_new V170 [97, 100]
          have nxv : bv ≠ V170.heap.size := Nat.ne_of_lt Lv.out.lt
          refine hK.out _ _ (hH.trans hb) (fun hH' => ?_)
          clear hK K hH
          have hH := hH'
          clear hH'
          try simp only [List.setIfInBounds_toArray, List.set]
          obtain ⟨x174, hnew⟩ : ∃ v, v = (V170.alloc (.cells #[.int .u8 97, .int .u8 100] 5)) := ⟨_, rfl⟩
          obtain ⟨bx, hbn⟩ : ∃ v, v = V170.heap.size := ⟨_, rfl⟩
          rw [← hnew] at hb Lx hH ⊢
          rw [← hbn] at Lx gx ⊢
          rw [← hbn] at nxv
          replace Lv : Hid (Lt x174 bv [116, 101, 120, 116]) := Lv.out.later hb
          clear hb hnew hbn
          refine wpAnyH_ready (rs := [3, 5]) (by kernel_rfl) (by simp) ?_
          refine AllReadyH.cons (o := ?ok175) ?hk175 (fun K hK => ?sk175) (AllReadyH.cons (o := ?ok176) ?hk176 (fun K hK => ?sk176) AllReadyH.nil)
          case hk175 => simp only [List.getElem?_toArray]; rfl
          case hk176 => simp only [List.getElem?_toArray]; rfl
          case sk175 =>
            have hcv := conv_mark x174 bx [97, 100] 2 2 Lx.out
            simp only [List.length_cons, List.length_nil, Nat.zero_add, Nat.reduceAdd] at hcv
            go_simp
            clear hcv
            have Rx : Hid (Rd (x174.freeze ⟨bx, 2, none⟩ 1) (some ⟨bx, 0, none⟩) 2 2 [97, 100]) := (Lx.out.rd (byt5 _ (by decide)) 2 (by decide)).frz _ _
            refine hK.out _ _ (ext_frz hH bx 2 gx) (fun hH' => ?_)
            clear hK K hH
            have hH := hH'
            clear hH'
            try simp only [List.setIfInBounds_toArray, List.set]
            replace Lv : Hid (Lt (x174.freeze ⟨bx, 2, none⟩ 1) bv [116, 101, 120, 116]) := Lv.out.frz bx 2 1 (by first | exact nxv | exact nvx.symm)
            clear Lx
            obtain ⟨x178, hnew⟩ : ∃ v, v = (x174.freeze ⟨bx, 2, none⟩ 1) := ⟨_, rfl⟩
            rw [← hnew] at hH Rx Lv ⊢
            clear hnew
            refine wpAnyH_ready (rs := [5]) (by kernel_rfl) (by simp) ?_
            refine AllReadyH.cons (o := ?ok179) ?hk179 (fun K hK => ?sk179) AllReadyH.nil
            case hk179 => simp only [List.getElem?_toArray]; rfl
            case sk179 =>
              have hcv := conv_mark x178 bv [116, 101, 120, 116] 4 4 Lv.out
              simp only [List.length_cons, List.length_nil, Nat.zero_add, Nat.reduceAdd] at hcv
              go_simp
              clear hcv
              have Rv : Hid (Rd (x178.freeze ⟨bv, 4, none⟩ 1) (some ⟨bv, 0, none⟩) 4 4 [116, 101, 120, 116]) := (Lv.out.rd (byt5 _ (by decide)) 4 (by decide)).frz _ _
              refine hK.out _ _ (ext_frz hH bv 4 gv) (fun hH' => ?_)
              clear hK K hH
              have hH := hH'
              clear hH'
              try simp only [List.setIfInBounds_toArray, List.set]
              replace Rx : Hid (Rd (x178.freeze ⟨bv, 4, none⟩ 1) (some ⟨bx, 0, none⟩) 2 2 [97, 100]) := Rx.out.frz _ _
              clear Lv
              obtain ⟨x181, hnew⟩ : ∃ v, v = (x178.freeze ⟨bv, 4, none⟩ 1) := ⟨_, rfl⟩
              rw [← hnew] at hH Rv Rx ⊢
              clear hnew
              exact hrest x181 bx bv N ⟨hH, Rx, Rv, HN, HNn⟩
          case sk176 =>
            have hcv := conv_mark x174 bv [116, 101, 120, 116] 4 4 Lv.out
            simp only [List.length_cons, List.length_nil, Nat.zero_add, Nat.reduceAdd] at hcv
            go_simp
            clear hcv
            have Rv : Hid (Rd (x174.freeze ⟨bv, 4, none⟩ 1) (some ⟨bv, 0, none⟩) 4 4 [116, 101, 120, 116]) := (Lv.out.rd (byt5 _ (by decide)) 4 (by decide)).frz _ _
            refine hK.out _ _ (ext_frz hH bv 4 gv) (fun hH' => ?_)
            clear hK K hH
            have hH := hH'
            clear hH'
            try simp only [List.setIfInBounds_toArray, List.set]
            replace Lx : Hid (Lt (x174.freeze ⟨bv, 4, none⟩ 1) bx [97, 100]) := Lx.out.frz bv 4 1 (by first | exact nvx | exact nxv.symm)
            clear Lv
            obtain ⟨x183, hnew⟩ : ∃ v, v = (x174.freeze ⟨bv, 4, none⟩ 1) := ⟨_, rfl⟩
            rw [← hnew] at hH Rv Lx ⊢
            clear hnew
            refine wpAnyH_ready (rs := [3]) (by kernel_rfl) (by simp) ?_
            refine AllReadyH.cons (o := ?ok184) ?hk184 (fun K hK => ?sk184) AllReadyH.nil
            case hk184 => simp only [List.getElem?_toArray]; rfl
            case sk184 =>
              have hcv := conv_mark x183 bx [97, 100] 2 2 Lx.out
              simp only [List.length_cons, List.length_nil, Nat.zero_add, Nat.reduceAdd] at hcv
              go_simp
              clear hcv
              have Rx : Hid (Rd (x183.freeze ⟨bx, 2, none⟩ 1) (some ⟨bx, 0, none⟩) 2 2 [97, 100]) := (Lx.out.rd (byt5 _ (by decide)) 2 (by decide)).frz _ _
              refine hK.out _ _ (ext_frz hH bx 2 gx) (fun hH' => ?_)
              clear hK K hH
              have hH := hH'
              clear hH'
              try simp only [List.setIfInBounds_toArray, List.set]
              replace Rv : Hid (Rd (x183.freeze ⟨bx, 2, none⟩ 1) (some ⟨bv, 0, none⟩) 4 4 [116, 101, 120, 116]) := Rv.out.frz _ _
              clear Lx
              obtain ⟨x186, hnew⟩ : ∃ v, v = (x183.freeze ⟨bx, 2, none⟩ 1) := ⟨_, rfl⟩
              rw [← hnew] at hH Rx Rv ⊢
              clear hnew
              exact hrest x186 bx bv N ⟨hH, Rx, Rv, HN, HNn⟩
        case sk172 =>
          have hcv := conv_mark V170 bv [116, 101, 120, 116] 4 4 Lv.out
          simp only [List.length_cons, List.length_nil, Nat.zero_add, Nat.reduceAdd] at hcv
          go_simp
          clear hcv
          have Rv : Hid (Rd (V170.freeze ⟨bv, 4, none⟩ 1) (some ⟨bv, 0, none⟩) 4 4 [116, 101, 120, 116]) := (Lv.out.rd (byt5 _ (by decide)) 4 (by decide)).frz _ _
          refine hK.out _ _ (ext_frz hH bv 4 gv) (fun hH' => ?_)
          clear hK K hH
          have hH := hH'
          clear hH'
          try simp only [List.setIfInBounds_toArray, List.set]
          clear Lv
          obtain ⟨x188, hnew⟩ : ∃ v, v = (V170.freeze ⟨bv, 4, none⟩ 1) := ⟨_, rfl⟩
          rw [← hnew] at hH Rv ⊢
          clear hnew
          refine wpAnyH_ready (rs := [2]) (by kernel_rfl) (by simp) ?_
          refine AllReadyH.cons (o := ?ok189) ?hk189 (fun K hK => ?sk189) AllReadyH.nil
          case hk189 => simp only [List.getElem?_toArray]; rfl
          case sk189 =>
            go_simp
            have hb := bel1 x188 (.cells #[.int .u8 97, .int .u8 100] 5)
            have gx : W1.heap.size ≤ x188.heap.size := hH.size
            have Lx : Hid (Lt (x188.alloc (.cells #[.int .u8 97, .int .u8 100] 5)) x188.heap.size [97, 100]) := lt_new x188 [97, 100]
            refine hK.out _ _ (hH.trans hb) (fun hH' => ?_)
            clear hK K hH
            have hH := hH'
            clear hH'
            try simp only [List.setIfInBounds_toArray, List.set]
            obtain ⟨x191, hnew⟩ : ∃ v, v = (x188.alloc (.cells #[.int .u8 97, .int .u8 100] 5)) := ⟨_, rfl⟩
            obtain ⟨bx, hbn⟩ : ∃ v, v = x188.heap.size := ⟨_, rfl⟩
            rw [← hnew] at hb Lx hH ⊢
            rw [← hbn] at Lx gx ⊢
            replace Rv : Hid (Rd x191 (some ⟨bv, 0, none⟩) 4 4 [116, 101, 120, 116]) := Rv.out.below hb
            clear hb hnew hbn
            refine wpAnyH_ready (rs := [3]) (by kernel_rfl) (by simp) ?_
            refine AllReadyH.cons (o := ?ok192) ?hk192 (fun K hK => ?sk192) AllReadyH.nil
            case hk192 => simp only [List.getElem?_toArray]; rfl
            case sk192 =>
              have hcv := conv_mark x191 bx [97, 100] 2 2 Lx.out
              simp only [List.length_cons, List.length_nil, Nat.zero_add, Nat.reduceAdd] at hcv
              go_simp
              clear hcv
              have Rx : Hid (Rd (x191.freeze ⟨bx, 2, none⟩ 1) (some ⟨bx, 0, none⟩) 2 2 [97, 100]) := (Lx.out.rd (byt5 _ (by decide)) 2 (by decide)).frz _ _
              refine hK.out _ _ (ext_frz hH bx 2 gx) (fun hH' => ?_)
              clear hK K hH
              have hH := hH'
              clear hH'
              try simp only [List.setIfInBounds_toArray, List.set]
              replace Rv : Hid (Rd (x191.freeze ⟨bx, 2, none⟩ 1) (some ⟨bv, 0, none⟩) 4 4 [116, 101, 120, 116]) := Rv.out.frz _ _
              clear Lx
              obtain ⟨x194, hnew⟩ : ∃ v, v = (x191.freeze ⟨bx, 2, none⟩ 1) := ⟨_, rfl⟩
              rw [← hnew] at hH Rx Rv ⊢
              clear hnew
              exact hrest x194 bx bv N ⟨hH, Rx, Rv, HN, HNn⟩
      case sk167 =>
        go_simp
        have hb := bel1 x165 (.cells #[.int .u8 97, .int .u8 100] 5)
        have gx : W1.heap.size ≤ x165.heap.size := hH.size
        have Lx : Hid (Lt (x165.alloc (.cells #[.int .u8 97, .int .u8 100] 5)) x165.heap.size [97, 100]) := lt_new x165 [97, 100]
        have nxv : bv ≠ x165.heap.size := Nat.ne_of_lt Lv.out.lt
        refine hK.out _ _ (hH.trans hb) (fun hH' => ?_)
        clear hK K hH
        have hH := hH'
        clear hH'
        try simp only [List.setIfInBounds_toArray, List.set]
        obtain ⟨x196, hnew⟩ : ∃ v, v = (x165.alloc (.cells #[.int .u8 97, .int .u8 100] 5)) := ⟨_, rfl⟩
        obtain ⟨bx, hbn⟩ : ∃ v, v = x165.heap.size := ⟨_, rfl⟩
        rw [← hnew] at hb Lx hH ⊢
        rw [← hbn] at Lx gx ⊢
        rw [← hbn] at nxv
        replace Lv : Hid (Lt x196 bv [116, 101, 120, 116]) := Lv.out.later hb
        clear hb hnew hbn
        refine wpAnyH_ready (rs := [1, 3, 5]) (by kernel_rfl) (by simp) ?_
        refine AllReadyH.cons (o := ?ok197) ?hk197 (fun K hK => ?sk197) (AllReadyH.cons (o := ?ok198) ?hk198 (fun K hK => ?sk198) (AllReadyH.cons (o := ?ok199) ?hk199 (fun K hK => ?sk199) AllReadyH.nil))
        case hk197 => simp only [List.getElem?_toArray]; rfl
        case hk198 => simp only [List.getElem?_toArray]; rfl
        case hk199 => simp only [List.getElem?_toArray]; rfl
        case sk197 =>
          go_simp
          refine (nonce_c 7 (by decide) (by decide) _).mono ?_
          rintro e V201 ⟨N, rfl, HN, HNn, hb⟩
          refine hK.out _ _ (hH.trans hb) (fun hH' => ?_)
          clear hK K hH
          have hH := hH'
          clear hH'
          try simp only [List.setIfInBounds_toArray, List.set]
          replace Lx : Hid (Lt V201 bx [97, 100]) := Lx.out.later hb
          replace Lv : Hid (Lt V201 bv [116, 101, 120, 116]) := Lv.out.later hb
          clear hb
          refine wpAnyH_ready (rs := [3, 5]) (by kernel_rfl) (by simp) ?_
          refine AllReadyH.cons (o := ?ok202) ?hk202 (fun K hK => ?sk202) (AllReadyH.cons (o := ?ok203) ?hk203 (fun K hK => ?sk203) AllReadyH.nil)
          case hk202 => simp only [List.getElem?_toArray]; rfl
          case hk203 => simp only [List.getElem?_toArray]; rfl
          case sk202 =>
            have hcv := conv_mark V201 bx [97, 100] 2 2 Lx.out
            simp only [List.length_cons, List.length_nil, Nat.zero_add, Nat.reduceAdd] at hcv
            go_simp
            clear hcv
            have Rx : Hid (Rd (V201.freeze ⟨bx, 2, none⟩ 1) (some ⟨bx, 0, none⟩) 2 2 [97, 100]) := (Lx.out.rd (byt5 _ (by decide)) 2 (by decide)).frz _ _
            refine hK.out _ _ (ext_frz hH bx 2 gx) (fun hH' => ?_)
            clear hK K hH
            have hH := hH'
            clear hH'
            try simp only [List.setIfInBounds_toArray, List.set]
            replace Lv : Hid (Lt (V201.freeze ⟨bx, 2, none⟩ 1) bv [116, 101, 120, 116]) := Lv.out.frz bx 2 1 (by first | exact nxv | exact nvx.symm)
            clear Lx
            obtain ⟨x205, hnew⟩ : ∃ v, v = (V201.freeze ⟨bx, 2, none⟩ 1) := ⟨_, rfl⟩
            rw [← hnew] at hH Rx Lv ⊢
            clear hnew
            refine wpAnyH_ready (rs := [5]) (by kernel_rfl) (by simp) ?_
            refine AllReadyH.cons (o := ?ok206) ?hk206 (fun K hK => ?sk206) AllReadyH.nil
            case hk206 => simp only [List.getElem?_toArray]; rfl
            case sk206 =>
              have hcv := conv_mark x205 bv [116, 101, 120, 116] 4 4 Lv.out
              simp only [List.length_cons, List.length_nil, Nat.zero_add, Nat.reduceAdd] at hcv
              go_simp
              clear hcv
              have Rv : Hid (Rd (x205.freeze ⟨bv, 4, none⟩ 1) (some ⟨bv, 0, none⟩) 4 4 [116, 101, 120, 116]) := (Lv.out.rd (byt5 _ (by decide)) 4 (by decide)).frz _ _
              refine hK.out _ _ (ext_frz hH bv 4 gv) (fun hH' => ?_)
              clear hK K hH
              have hH := hH'
              clear hH'
              try simp only [List.setIfInBounds_toArray, List.set]
              replace Rx : Hid (Rd (x205.freeze ⟨bv, 4, none⟩ 1) (some ⟨bx, 0, none⟩) 2 2 [97, 100]) := Rx.out.frz _ _
              clear Lv
              obtain ⟨x208, hnew⟩ : ∃ v, v = (x205.freeze ⟨bv, 4, none⟩ 1) := ⟨_, rfl⟩
              rw [← hnew] at hH Rv Rx ⊢
              clear hnew
              exact hrest x208 bx bv N ⟨hH, Rx, Rv, HN, HNn⟩
          case sk203 =>
            have hcv := conv_mark V201 bv [116, 101, 120, 116] 4 4 Lv.out
            simp only [List.length_cons, List.length_nil, Nat.zero_add, Nat.reduceAdd] at hcv
            go_simp
            clear hcv
            have Rv : Hid (Rd (V201.freeze ⟨bv, 4, none⟩ 1) (some ⟨bv, 0, none⟩) 4 4 [116, 101, 120, 116]) := (Lv.out.rd (byt5 _ (by decide)) 4 (by decide)).frz _ _
            refine hK.out _ _ (ext_frz hH bv 4 gv) (fun hH' => ?_)
            clear hK K hH
            have hH := hH'
            clear hH'
            try simp only [List.setIfInBounds_toArray, List.set]
            replace Lx : Hid (Lt (V201.freeze ⟨bv, 4, none⟩ 1) bx [97, 100]) := Lx.out.frz bv 4 1 (by first | exact nvx | exact nxv.symm)
            clear Lv
            obtain ⟨x210, hnew⟩ : ∃ v, v = (V201.freeze ⟨bv, 4, none⟩ 1) := ⟨_, rfl⟩
            rw [← hnew] at hH Rv Lx ⊢
            clear hnew
            refine wpAnyH_ready (rs := [3]) (by kernel_rfl) (by simp) ?_
            refine AllReadyH.cons (o := ?ok211) ?hk211 (fun K hK => ?sk211) AllReadyH.nil
            case hk211 => simp only [List.getElem?_toArray]; rfl
            case sk211 =>
              have hcv := conv_mark x210 bx [97, 100] 2 2 Lx.out
              simp only [List.length_cons, List.length_nil, Nat.zero_add, Nat.reduceAdd] at hcv
              go_simp
              clear hcv
              have Rx : Hid (Rd (x210.freeze ⟨bx, 2, none⟩ 1) (some ⟨bx, 0, none⟩) 2 2 [97, 100]) := (Lx.out.rd (byt5 _ (by decide)) 2 (by decide)).frz _ _
              refine hK.out _ _ (ext_frz hH bx 2 gx) (fun hH' => ?_)
              clear hK K hH
              have hH := hH'
              clear hH'
              try simp only [List.setIfInBounds_toArray, List.set]
              replace Rv : Hid (Rd (x210.freeze ⟨bx, 2, none⟩ 1) (some ⟨bv, 0, none⟩) 4 4 [116, 101, 120, 116]) := Rv.out.frz _ _
              clear Lx
              obtain ⟨x213, hnew⟩ : ∃ v, v = (x210.freeze ⟨bx, 2, none⟩ 1) := ⟨_, rfl⟩
              rw [← hnew] at hH Rx Rv ⊢
              clear hnew
              exact hrest x213 bx bv N ⟨hH, Rx, Rv, HN, HNn⟩
        case sk198 =>
          have hcv := conv_mark x196 bx [97, 100] 2 2 Lx.out
          simp only [List.length_cons, List.length_nil, Nat.zero_add, Nat.reduceAdd] at hcv
          go_simp
          clear hcv
          have Rx : Hid (Rd (x196.freeze ⟨bx, 2, none⟩ 1) (some ⟨bx, 0, none⟩) 2 2 [97, 100]) := (Lx.out.rd (byt5 _ (by decide)) 2 (by decide)).frz _ _
          refine hK.out _ _ (ext_frz hH bx 2 gx) (fun hH' => ?_)
          clear hK K hH
          have hH := hH'
          clear hH'
          try simp only [List.setIfInBounds_toArray, List.set]
          replace Lv : Hid (Lt (x196.freeze ⟨bx, 2, none⟩ 1) bv [116, 101, 120, 116]) := Lv.out.frz bx 2 1 (by first | exact nxv | exact nvx.symm)
          clear Lx
          obtain ⟨x215, hnew⟩ : ∃ v, v = (x196.freeze ⟨bx, 2, none⟩ 1) := ⟨_, rfl⟩
          rw [← hnew] at hH Rx Lv ⊢
          clear hnew
          refine wpAnyH_ready (rs := [1, 5]) (by kernel_rfl) (by simp) ?_
          refine AllReadyH.cons (o := ?ok216) ?hk216 (fun K hK => ?sk216) (AllReadyH.cons (o := ?ok217) ?hk217 (fun K hK => ?sk217) AllReadyH.nil)
          case hk216 => simp only [List.getElem?_toArray]; rfl
          case hk217 => simp only [List.getElem?_toArray]; rfl
          case sk216 =>
            go_simp
            refine (nonce_c 7 (by decide) (by decide) _).mono ?_
            rintro e V219 ⟨N, rfl, HN, HNn, hb⟩
            refine hK.out _ _ (hH.trans hb) (fun hH' => ?_)
            clear hK K hH
            have hH := hH'
            clear hH'
            try simp only [List.setIfInBounds_toArray, List.set]
            replace Rx : Hid (Rd V219 (some ⟨bx, 0, none⟩) 2 2 [97, 100]) := Rx.out.below hb
            replace Lv : Hid (Lt V219 bv [116, 101, 120, 116]) := Lv.out.later hb
            clear hb
            refine wpAnyH_ready (rs := [5]) (by kernel_rfl) (by simp) ?_
            refine AllReadyH.cons (o := ?ok220) ?hk220 (fun K hK => ?sk220) AllReadyH.nil
            case hk220 => simp only [List.getElem?_toArray]; rfl
            case sk220 =>
              have hcv := conv_mark V219 bv [116, 101, 120, 116] 4 4 Lv.out
              simp only [List.length_cons, List.length_nil, Nat.zero_add, Nat.reduceAdd] at hcv
              go_simp
              clear hcv
              have Rv : Hid (Rd (V219.freeze ⟨bv, 4, none⟩ 1) (some ⟨bv, 0, none⟩) 4 4 [116, 101, 120, 116]) := (Lv.out.rd (byt5 _ (by decide)) 4 (by decide)).frz _ _
              refine hK.out _ _ (ext_frz hH bv 4 gv) (fun hH' => ?_)
              clear hK K hH
              have hH := hH'
              clear hH'
              try simp only [List.setIfInBounds_toArray, List.set]
              replace Rx : Hid (Rd (V219.freeze ⟨bv, 4, none⟩ 1) (some ⟨bx, 0, none⟩) 2 2 [97, 100]) := Rx.out.frz _ _
              clear Lv
              obtain ⟨x222, hnew⟩ : ∃ v, v = (V219.freeze ⟨bv, 4, none⟩ 1) := ⟨_, rfl⟩
              rw [← hnew] at hH Rv Rx ⊢
              clear hnew
              exact hrest x222 bx bv N ⟨hH, Rx, Rv, HN, HNn⟩
          case sk217 =>
            have hcv := conv_mark x215 bv [116, 101, 120, 116] 4 4 Lv.out
            simp only [List.length_cons, List.length_nil, Nat.zero_add, Nat.reduceAdd] at hcv
            go_simp
            clear hcv
            have Rv : Hid (Rd (x215.freeze ⟨bv, 4, none⟩ 1) (some ⟨bv, 0, none⟩) 4 4 [116, 101, 120, 116]) := (Lv.out.rd (byt5 _ (by decide)) 4 (by decide)).frz _ _
            refine hK.out _ _ (ext_frz hH bv 4 gv) (fun hH' => ?_)
            clear hK K hH
            have hH := hH'
            clear hH'
            try simp only [List.setIfInBounds_toArray, List.set]
            replace Rx : Hid (Rd (x215.freeze ⟨bv, 4, none⟩ 1) (some ⟨bx, 0, none⟩) 2 2 [97, 100]) := Rx.out.frz _ _
            clear Lv
            obtain ⟨x224, hnew⟩ : ∃ v, v = (x215.freeze ⟨bv, 4, none⟩ 1) := ⟨_, rfl⟩
            rw [← hnew] at hH Rv Rx ⊢
            clear hnew
            refine wpAnyH_ready (rs := [1]) (by kernel_rfl) (by simp) ?_
            refine AllReadyH.cons (o := ?ok225) ?hk225 (fun K hK => ?sk225) AllReadyH.nil
            case hk225 => simp only [List.getElem?_toArray]; rfl
            case sk225 =>
              go_simp
              refine (nonce_c 7 (by decide) (by decide) _).mono ?_
              rintro e V227 ⟨N, rfl, HN, HNn, hb⟩
              refine hK.out _ _ (hH.trans hb) (fun hH' => ?_)
              clear hK K hH
              have hH := hH'
              clear hH'
              try simp only [List.setIfInBounds_toArray, List.set]
              replace Rx : Hid (Rd V227 (some ⟨bx, 0, none⟩) 2 2 [97, 100]) := Rx.out.below hb
              replace Rv : Hid (Rd V227 (some ⟨bv, 0, none⟩) 4 4 [116, 101, 120, 116]) := Rv.out.below hb
              clear hb
              exact hrest V227 bx bv N ⟨hH, Rx, Rv, HN, HNn⟩
        case sk199 =>
          have hcv := conv_mark x196 bv [116, 101, 120, 116] 4 4 Lv.out
          simp only [List.length_cons, List.length_nil, Nat.zero_add, Nat.reduceAdd] at hcv
          go_simp
          clear hcv
          have Rv : Hid (Rd (x196.freeze ⟨bv, 4, none⟩ 1) (some ⟨bv, 0, none⟩) 4 4 [116, 101, 120, 116]) := (Lv.out.rd (byt5 _ (by decide)) 4 (by decide)).frz _ _
          refine hK.out _ _ (ext_frz hH bv 4 gv) (fun hH' => ?_)
          clear hK K hH
          have hH := hH'
          clear hH'
          try simp only [List.setIfInBounds_toArray, List.set]
          replace Lx : Hid (Lt (x196.freeze ⟨bv, 4, none⟩ 1) bx [97, 100]) := Lx.out.frz bv 4 1 (by first | exact nvx | exact nxv.symm)
          clear Lv
          obtain ⟨x229, hnew⟩ : ∃ v, v = (x196.freeze ⟨bv, 4, none⟩ 1) := ⟨_, rfl⟩
          rw [← hnew] at hH Rv Lx ⊢
          clear hnew
          refine wpAnyH_ready (rs := [1, 3]) (by kernel_rfl) (by simp) ?_
          refine AllReadyH.cons (o := ?ok230) ?hk230 (fun K hK => ?sk230) (AllReadyH.cons (o := ?ok231) ?hk231 (fun K hK => ?sk231) AllReadyH.nil)
          case hk230 => simp only [List.getElem?_toArray]; rfl
          case hk231 => simp only [List.getElem?_toArray]; rfl
          case sk230 =>
            go_simp
            refine (nonce_c 7 (by decide) (by decide) _).mono ?_
            rintro e V233 ⟨N, rfl, HN, HNn, hb⟩
            refine hK.out _ _ (hH.trans hb) (fun hH' => ?_)
            clear hK K hH
            have hH := hH'
            clear hH'
            try simp only [List.setIfInBounds_toArray, List.set]
            replace Lx : Hid (Lt V233 bx [97, 100]) := Lx.out.later hb
            replace Rv : Hid (Rd V233 (some ⟨bv, 0, none⟩) 4 4 [116, 101, 120, 116]) := Rv.out.below hb
            clear hb
            refine wpAnyH_ready (rs := [3]) (by kernel_rfl) (by simp) ?_
            refine AllReadyH.cons (o := ?ok234) ?hk234 (fun K hK => ?sk234) AllReadyH.nil
            case hk234 => simp only [List.getElem?_toArray]; rfl
            case sk234 =>
              have hcv := conv_mark V233 bx [97, 100] 2 2 Lx.out
              simp only [List.length_cons, List.length_nil, Nat.zero_add, Nat.reduceAdd] at hcv
              go_simp
              clear hcv
              have Rx : Hid (Rd (V233.freeze ⟨bx, 2, none⟩ 1) (some ⟨bx, 0, none⟩) 2 2 [97, 100]) := (Lx.out.rd (byt5 _ (by decide)) 2 (by decide)).frz _ _
              refine hK.out _ _ (ext_frz hH bx 2 gx) (fun hH' => ?_)
              clear hK K hH
              have hH := hH'
              clear hH'
              try simp only [List.setIfInBounds_toArray, List.set]
              replace Rv : Hid (Rd (V233.freeze ⟨bx, 2, none⟩ 1) (some ⟨bv, 0, none⟩) 4 4 [116, 101, 120, 116]) := Rv.out.frz _ _
              clear Lx
              obtain ⟨x236, hnew⟩ : ∃ v, v = (V233.freeze ⟨bx, 2, none⟩ 1) := ⟨_, rfl⟩
              rw [← hnew] at hH Rx Rv ⊢
              clear hnew
              exact hrest x236 bx bv N ⟨hH, Rx, Rv, HN, HNn⟩
          case sk231 =>
            have hcv := conv_mark x229 bx [97, 100] 2 2 Lx.out
            simp only [List.length_cons, List.length_nil, Nat.zero_add, Nat.reduceAdd] at hcv
            go_simp
            clear hcv
            have Rx : Hid (Rd (x229.freeze ⟨bx, 2, none⟩ 1) (some ⟨bx, 0, none⟩) 2 2 [97, 100]) := (Lx.out.rd (byt5 _ (by decide)) 2 (by decide)).frz _ _
            refine hK.out _ _ (ext_frz hH bx 2 gx) (fun hH' => ?_)
            clear hK K hH
            have hH := hH'
            clear hH'
            try simp only [List.setIfInBounds_toArray, List.set]
            replace Rv : Hid (Rd (x229.freeze ⟨bx, 2, none⟩ 1) (some ⟨bv, 0, none⟩) 4 4 [116, 101, 120, 116]) := Rv.out.frz _ _
            clear Lx
            obtain ⟨x238, hnew⟩ : ∃ v, v = (x229.freeze ⟨bx, 2, none⟩ 1) := ⟨_, rfl⟩
            rw [← hnew] at hH Rx Rv ⊢
            clear hnew
            refine wpAnyH_ready (rs := [1]) (by kernel_rfl) (by simp) ?_
            refine AllReadyH.cons (o := ?ok239) ?hk239 (fun K hK => ?sk239) AllReadyH.nil
            case hk239 => simp only [List.getElem?_toArray]; rfl
            case sk239 =>
              go_simp
              refine (nonce_c 7 (by decide) (by decide) _).mono ?_
              rintro e V241 ⟨N, rfl, HN, HNn, hb⟩
              refine hK.out _ _ (hH.trans hb) (fun hH' => ?_)
              clear hK K hH
              have hH := hH'
              clear hH'
              try simp only [List.setIfInBounds_toArray, List.set]
              replace Rx : Hid (Rd V241 (some ⟨bx, 0, none⟩) 2 2 [97, 100]) := Rx.out.below hb
              replace Rv : Hid (Rd V241 (some ⟨bv, 0, none⟩) 4 4 [116, 101, 120, 116]) := Rv.out.below hb
              clear hb
              exact hrest V241 bx bv N ⟨hH, Rx, Rv, HN, HNn⟩
      case sk168 =>
        have hcv := conv_mark x165 bv [116, 101, 120, 116] 4 4 Lv.out
        simp only [List.length_cons, List.length_nil, Nat.zero_add, Nat.reduceAdd] at hcv
        go_simp
        clear hcv
        have Rv : Hid (Rd (x165.freeze ⟨bv, 4, none⟩ 1) (some ⟨bv, 0, none⟩) 4 4 [116, 101, 120, 116]) := (Lv.out.rd (byt5 _ (by decide)) 4 (by decide)).frz _ _
        refine hK.out _ _ (ext_frz hH bv 4 gv) (fun hH' => ?_)
        clear hK K hH
        have hH := hH'
        clear hH'
        try simp only [List.setIfInBounds_toArray, List.set]
        clear Lv
        obtain ⟨x243, hnew⟩ : ∃ v, v = (x165.freeze ⟨bv, 4, none⟩ 1) := ⟨_, rfl⟩
        rw [← hnew] at hH Rv ⊢
        clear hnew
        refine wpAnyH_ready (rs := [1, 2]) (by kernel_rfl) (by simp) ?_
        refine AllReadyH.cons (o := ?ok244) ?hk244 (fun K hK => ?sk244) (AllReadyH.cons (o := ?ok245) ?hk245 (fun K hK => ?sk245) AllReadyH.nil)
        case hk244 => simp only [List.getElem?_toArray]; rfl
        case hk245 => simp only [List.getElem?_toArray]; rfl
        case sk244 =>
          go_simp
          refine (nonce_c 7 (by decide) (by decide) _).mono ?_
          rintro e V247 ⟨N, rfl, HN, HNn, hb⟩
          refine hK.out _ _ (hH.trans hb) (fun hH' => ?_)
          clear hK K hH
          have hH := hH'
          clear hH'
          try simp only [List.setIfInBounds_toArray, List.set]
          replace Rv : Hid (Rd V247 (some ⟨bv, 0, none⟩) 4 4 [116, 101, 120, 116]) := Rv.out.below hb
          clear hb
          refine wpAnyH_ready (rs := [2]) (by kernel_rfl) (by simp) ?_
          refine AllReadyH.cons (o := ?ok248) ?hk248 (fun K hK => ?sk248) AllReadyH.nil
          case hk248 => simp only [List.getElem?_toArray]; rfl
          case sk248 =>
            go_simp
            have hb := bel1 V247 (.cells #[.int .u8 97, .int .u8 100] 5)
            have gx : W1.heap.size ≤ V247.heap.size := hH.size
            have Lx : Hid (Lt (V247.alloc (.cells #[.int .u8 97, .int .u8 100] 5)) V247.heap.size [97, 100]) := lt_new V247 [97, 100]
            refine hK.out _ _ (hH.trans hb) (fun hH' => ?_)
            clear hK K hH
            have hH := hH'
            clear hH'
            try simp only [List.setIfInBounds_toArray, List.set]
            obtain ⟨x250, hnew⟩ : ∃ v, v = (V247.alloc (.cells #[.int .u8 97, .int .u8 100] 5)) := ⟨_, rfl⟩
            obtain ⟨bx, hbn⟩ : ∃ v, v = V247.heap.size := ⟨_, rfl⟩
            rw [← hnew] at hb Lx hH ⊢
            rw [← hbn] at Lx gx ⊢
            replace Rv : Hid (Rd x250 (some ⟨bv, 0, none⟩) 4 4 [116, 101, 120, 116]) := Rv.out.below hb
            clear hb hnew hbn
            refine wpAnyH_ready (rs := [3]) (by kernel_rfl) (by simp) ?_
            refine AllReadyH.cons (o := ?ok251) ?hk251 (fun K hK => ?sk251) AllReadyH.nil
            case hk251 => simp only [List.getElem?_toArray]; rfl
            case sk251 =>
              have hcv := conv_mark x250 bx [97, 100] 2 2 Lx.out
              simp only [List.length_cons, List.length_nil, Nat.zero_add, Nat.reduceAdd] at hcv
              go_simp
              clear hcv
              have Rx : Hid (Rd (x250.freeze ⟨bx, 2, none⟩ 1) (some ⟨bx, 0, none⟩) 2 2 [97, 100]) := (Lx.out.rd (byt5 _ (by decide)) 2 (by decide)).frz _ _
              refine hK.out _ _ (ext_frz hH bx 2 gx) (fun hH' => ?_)
              clear hK K hH
              have hH := hH'
              clear hH'
              try simp only [List.setIfInBounds_toArray, List.set]
              replace Rv : Hid (Rd (x250.freeze ⟨bx, 2, none⟩ 1) (some ⟨bv, 0, none⟩) 4 4 [116, 101, 120, 116]) := Rv.out.frz _ _
              clear Lx
              obtain ⟨x253, hnew⟩ : ∃ v, v = (x250.freeze ⟨bx, 2, none⟩ 1) := ⟨_, rfl⟩
              rw [← hnew] at hH Rx Rv ⊢
              clear hnew
              exact hrest x253 bx bv N ⟨hH, Rx, Rv, HN, HNn⟩
        case sk245 =>
          go_simp
          have hb := bel1 x243 (.cells #[.int .u8 97, .int .u8 100] 5)
          have gx : W1.heap.size ≤ x243.heap.size := hH.size
          have Lx : Hid (Lt (x243.alloc (.cells #[.int .u8 97, .int .u8 100] 5)) x243.heap.size [97, 100]) := lt_new x243 [97, 100]
          refine hK.out _ _ (hH.trans hb) (fun hH' => ?_)
          clear hK K hH
          have hH := hH'
          clear hH'
          try simp only [List.setIfInBounds_toArray, List.set]
          obtain ⟨x255, hnew⟩ : ∃ v, v = (x243.alloc (.cells #[.int .u8 97, .int .u8 100] 5)) := ⟨_, rfl⟩
          obtain ⟨bx, hbn⟩ : ∃ v, v = x243.heap.size := ⟨_, rfl⟩
          rw [← hnew] at hb Lx hH ⊢
          rw [← hbn] at Lx gx ⊢
          replace Rv : Hid (Rd x255 (some ⟨bv, 0, none⟩) 4 4 [116, 101, 120, 116]) := Rv.out.below hb
          clear hb hnew hbn
          refine wpAnyH_ready (rs := [1, 3]) (by kernel_rfl) (by simp) ?_
          refine AllReadyH.cons (o := ?ok256) ?hk256 (fun K hK => ?sk256) (AllReadyH.cons (o := ?ok257) ?hk257 (fun K hK => ?sk257) AllReadyH.nil)
          case hk256 => simp only [List.getElem?_toArray]; rfl
          case hk257 => simp only [List.getElem?_toArray]; rfl
          case sk256 =>
            go_simp
            refine (nonce_c 7 (by decide) (by decide) _).mono ?_
            rintro e V259 ⟨N, rfl, HN, HNn, hb⟩
            refine hK.out _ _ (hH.trans hb) (fun hH' => ?_)
            clear hK K hH
            have hH := hH'
            clear hH'
            try simp only [List.setIfInBounds_toArray, List.set]
            replace Lx : Hid (Lt V259 bx [97, 100]) := Lx.out.later hb
            replace Rv : Hid (Rd V259 (some ⟨bv, 0, none⟩) 4 4 [116, 101, 120, 116]) := Rv.out.below hb
            clear hb
            refine wpAnyH_ready (rs := [3]) (by kernel_rfl) (by simp) ?_
            refine AllReadyH.cons (o := ?ok260) ?hk260 (fun K hK => ?sk260) AllReadyH.nil
            case hk260 => simp only [List.getElem?_toArray]; rfl
            case sk260 =>
              have hcv := conv_mark V259 bx [97, 100] 2 2 Lx.out
              simp only [List.length_cons, List.length_nil, Nat.zero_add, Nat.reduceAdd] at hcv
              go_simp
              clear hcv
              have Rx : Hid (Rd (V259.freeze ⟨bx, 2, none⟩ 1) (some ⟨bx, 0, none⟩) 2 2 [97, 100]) := (Lx.out.rd (byt5 _ (by decide)) 2 (by decide)).frz _ _
              refine hK.out _ _ (ext_frz hH bx 2 gx) (fun hH' => ?_)
              clear hK K hH
              have hH := hH'
              clear hH'
              try simp only [List.setIfInBounds_toArray, List.set]
              replace Rv : Hid (Rd (V259.freeze ⟨bx, 2, none⟩ 1) (some ⟨bv, 0, none⟩) 4 4 [116, 101, 120, 116]) := Rv.out.frz _ _
              clear Lx
              obtain ⟨x262, hnew⟩ : ∃ v, v = (V259.freeze ⟨bx, 2, none⟩ 1) := ⟨_, rfl⟩
              rw [← hnew] at hH Rx Rv ⊢
              clear hnew
              exact hrest x262 bx bv N ⟨hH, Rx, Rv, HN, HNn⟩
          case sk257 =>
            have hcv := conv_mark x255 bx [97, 100] 2 2 Lx.out
            simp only [List.length_cons, List.length_nil, Nat.zero_add, Nat.reduceAdd] at hcv
            go_simp
            clear hcv
            have Rx : Hid (Rd (x255.freeze ⟨bx, 2, none⟩ 1) (some ⟨bx, 0, none⟩) 2 2 [97, 100]) := (Lx.out.rd (byt5 _ (by decide)) 2 (by decide)).frz _ _
            refine hK.out _ _ (ext_frz hH bx 2 gx) (fun hH' => ?_)
            clear hK K hH
            have hH := hH'
            clear hH'
            try simp only [List.setIfInBounds_toArray, List.set]
            replace Rv : Hid (Rd (x255.freeze ⟨bx, 2, none⟩ 1) (some ⟨bv, 0, none⟩) 4 4 [116, 101, 120, 116]) := Rv.out.frz _ _
            clear Lx
            obtain ⟨x264, hnew⟩ : ∃ v, v = (x255.freeze ⟨bx, 2, none⟩ 1) := ⟨_, rfl⟩
            rw [← hnew] at hH Rx Rv ⊢
            clear hnew
            refine wpAnyH_ready (rs := [1]) (by kernel_rfl) (by simp) ?_
            refine AllReadyH.cons (o := ?ok265) ?hk265 (fun K hK => ?sk265) AllReadyH.nil
            case hk265 => simp only [List.getElem?_toArray]; rfl
            case sk265 =>
              go_simp
              refine (nonce_c 7 (by decide) (by decide) _).mono ?_
              rintro e V267 ⟨N, rfl, HN, HNn, hb⟩
              refine hK.out _ _ (hH.trans hb) (fun hH' => ?_)
              clear hK K hH
              have hH := hH'
              clear hH'
              try simp only [List.setIfInBounds_toArray, List.set]
              replace Rx : Hid (Rd V267 (some ⟨bx, 0, none⟩) 2 2 [97, 100]) := Rx.out.below hb
              replace Rv : Hid (Rd V267 (some ⟨bv, 0, none⟩) 4 4 [116, 101, 120, 116]) := Rv.out.below hb
              clear hb
              exact hrest V267 bx bv N ⟨hH, Rx, Rv, HN, HNn⟩
  case hr =>
    rintro Y2 bx bv N ⟨hE, Rx, Rv, HN, HNn⟩
    have hH := hE.out
    clear hE
    refine wpAnyH_ready (rs := [6]) (by kernel_rfl) (by simp) ?_
    refine AllReadyH.cons (o := ?o6q) ?h6q (fun K hK => ?_) AllReadyH.nil
    case h6q => simp only [List.getElem?_toArray]; rfl
    go_simp
    refine (seal_c key N (some ⟨bx, 0, none⟩) 2 2 [97, 100] (some ⟨bv, 0, none⟩) 4 4 [116, 101, 120, 116] HK.out HNn.out _ Rx.out Rv.out (by decide) (by decide)).mono ?_
    rintro e V2 ⟨gB, mB, XB, rfl, HmB, HXB, OB, -, hb⟩
    refine hK.out _ _ (hH.trans hb) (fun hH' => ?_)
    clear hK K hH
    have hH := hH'
    clear hH'
    try simp only [List.setIfInBounds_toArray, List.set]
    refine wpAnyH_take (i := 7) (oi := ?o7q) (v := ?v7q) ?h7q (by kernel_rfl) ?f7q ?r7q (fun _ _ _ h => h) (Or.inl ⟨?w7q, ?y7q⟩) (by assumption) ?t7q
    case h7q => simp only [List.getElem?_toArray]; rfl
    case f7q => kernel_rfl
    case r7q => kernel_rfl
    case w7q => rfl
    case y7q => (intro u hu; (go_simp) <;> with_reducible rfl)
    try simp only [Act.put, List.setIfInBounds_toArray, List.set_cons_zero, List.set_cons_succ]
    refine wpAnyH_done (by kernel_rfl) ?_ _
    refine NoPanic.normal ?_
    replace hb : Below W1.heap.size W1 V2 := hH
    have HXB2 : Hid (XB = se6 key (nn6 7) [97, 100] [116, 101, 120, 116]) := by unfold Hid; rw [HXB.out, HN.out]
    have hmBl : mB ≤ 100 := by rw [HmB.out]; decide
    clear hH Rx Rv HXB HN HNn
    replace AK : Hid (Ar V2 bK 32 (List.map (Value.int .u8) key)) := AK.out.later hb
    replace HB : Hid (Below w.heap.size w V2) := HB.out.trans (hb.mono HB.out.size)
    clear hb
    go_upto_region 3 with fail
    refine wp_region_noPanic ?_
    refine wp_region_held_drew (S := Ext V2) (by kernel_rfl) (Ext.refl _).drew (fun hH => ?_)
    change wpAnyH _ _ _ _ _ _ #[false, false, false, false, false, false, false, false, false, false, false] _ _
    refine wpAnyH_take (i := 0) (oi := ?o0u) (v := .agg (List.map (Value.int .u8) key).toArray) ?h0u (by kernel_rfl) ?f0u ?r0u (fun _ _ _ h => h) ?y0u (by assumption) ?t0u
    case h0u => simp only [List.getElem?_toArray]; rfl
    case f0u => kernel_rfl
    case r0u => kernel_rfl
    case y0u => exact yieldsIf_load_mid (by rfl) 22 (.tmp 1) rfl bK 0 rfl (List.map (Value.int .u8) key) _ (fun u hu => range_later hu AK.out.rng) Tryd.underlying22 rfl hiK
    try simp only [Act.put, List.setIfInBounds_toArray, List.set_cons_zero, List.set_cons_succ]
    refine wpAnyH_take (i := 4) (oi := ?o4u) (v := ?v4u) ?h4u (by kernel_rfl) ?f4u ?r4u (fun _ _ _ h => h) (Or.inl ⟨?w4u, ?y4u⟩) (by assumption) ?t4u
    case h4u => simp only [List.getElem?_toArray]; rfl
    case f4u => kernel_rfl
    case r4u => kernel_rfl
    case w4u => rfl
    case y4u => (intro u hu; (go_simp) <;> with_reducible rfl)
    try simp only [Act.put, List.setIfInBounds_toArray, List.set_cons_zero, List.set_cons_succ]
    generalize V2.drew = y0 at *
    revert hH
    apply cut2 (F := fun u x N => Hid (Ext V2 u) ∧ Hid (Rd u (some ⟨x, 0, none⟩) 2 2 [97, 100]) ∧ Hid (N = nn6 7) ∧ Hid (Bn 12 N))
    case h =>
      intro hrest hH
      refine wpAnyH_ready (rs := [1, 2]) (by kernel_rfl) (by simp) ?_
      refine AllReadyH.cons (o := ?ok268) ?hk268 (fun K hK => ?sk268) (AllReadyH.cons (o := ?ok269) ?hk269 (fun K hK => ?sk269) AllReadyH.nil)
      case hk268 => simp only [List.getElem?_toArray]; rfl
      case hk269 => simp only [List.getElem?_toArray]; rfl
      case sk268 =>
        go_simp
        refine (nonce_c 7 (by decide) (by decide) _).mono ?_
        rintro e V271 ⟨N, rfl, HN, HNn, hb⟩
        refine hK.out _ _ (hH.trans hb) (fun hH' => ?_)
        clear hK K hH
        have hH := hH'
        clear hH'
        try simp only [List.setIfInBounds_toArray, List.set]
        clear hb
        refine wpAnyH_ready (rs := [2]) (by kernel_rfl) (by simp) ?_
        refine AllReadyH.cons (o := ?ok272) ?hk272 (fun K hK => ?sk272) AllReadyH.nil
        case hk272 => simp only [List.getElem?_toArray]; rfl
        case sk272 =>
          go_simp
          have hb := bel1 V271 (.cells #[.int .u8 97, .int .u8 100] 5)
          have gx : V2.heap.size ≤ V271.heap.size := hH.size
          have Lx : Hid (Lt (V271.alloc (.cells #[.int .u8 97, .int .u8 100] 5)) V271.heap.size [97, 100]) := lt_new V271 [97, 100]
          refine hK.out _ _ (hH.trans hb) (fun hH' => ?_)
          clear hK K hH
          have hH := hH'
          clear hH'
          try simp only [List.setIfInBounds_toArray, List.set]
          obtain ⟨x274, hnew⟩ : ∃ v, v = (V271.alloc (.cells #[.int .u8 97, .int .u8 100] 5)) := ⟨_, rfl⟩
          obtain ⟨bx, hbn⟩ : ∃ v, v = V271.heap.size := ⟨_, rfl⟩
          rw [← hnew] at hb Lx hH ⊢
          rw [← hbn] at Lx gx ⊢
          clear hb hnew hbn
          refine wpAnyH_ready (rs := [3]) (by kernel_rfl) (by simp) ?_
          refine AllReadyH.cons (o := ?ok275) ?hk275 (fun K hK => ?sk275) AllReadyH.nil
          case hk275 => simp only [List.getElem?_toArray]; rfl
          case sk275 =>
            have hcv := conv_mark x274 bx [97, 100] 2 2 Lx.out
            simp only [List.length_cons, List.length_nil, Nat.zero_add, Nat.reduceAdd] at hcv
            go_simp
            clear hcv
            have Rx : Hid (Rd (x274.freeze ⟨bx, 2, none⟩ 1) (some ⟨bx, 0, none⟩) 2 2 [97, 100]) := (Lx.out.rd (byt5 _ (by decide)) 2 (by decide)).frz _ _
            refine hK.out _ _ (ext_frz hH bx 2 gx) (fun hH' => ?_)
            clear hK K hH
            have hH := hH'
            clear hH'
            try simp only [List.setIfInBounds_toArray, List.set]
            clear Lx
            obtain ⟨x277, hnew⟩ : ∃ v, v = (x274.freeze ⟨bx, 2, none⟩ 1) := ⟨_, rfl⟩
            rw [← hnew] at hH Rx ⊢
            clear hnew
            exact hrest x277 bx N ⟨hH, Rx, HN, HNn⟩
      case sk269 =>
        go_simp
        have hb := bel1 y0 (.cells #[.int .u8 97, .int .u8 100] 5)
        have gx : V2.heap.size ≤ y0.heap.size := hH.size
        have Lx : Hid (Lt (y0.alloc (.cells #[.int .u8 97, .int .u8 100] 5)) y0.heap.size [97, 100]) := lt_new y0 [97, 100]
        refine hK.out _ _ (hH.trans hb) (fun hH' => ?_)
        clear hK K hH
        have hH := hH'
        clear hH'
        try simp only [List.setIfInBounds_toArray, List.set]
        obtain ⟨x279, hnew⟩ : ∃ v, v = (y0.alloc (.cells #[.int .u8 97, .int .u8 100] 5)) := ⟨_, rfl⟩
        obtain ⟨bx, hbn⟩ : ∃ v, v = y0.heap.size := ⟨_, rfl⟩
        rw [← hnew] at hb Lx hH ⊢
        rw [← hbn] at Lx gx ⊢
        clear hb hnew hbn
        refine wpAnyH_ready (rs := [1, 3]) (by kernel_rfl) (by simp) ?_
        refine AllReadyH.cons (o := ?ok280) ?hk280 (fun K hK => ?sk280) (AllReadyH.cons (o := ?ok281) ?hk281 (fun K hK => ?sk281) AllReadyH.nil)
        case hk280 => simp only [List.getElem?_toArray]; rfl
        case hk281 => simp only [List.getElem?_toArray]; rfl
        case sk280 =>
          go_simp
          refine (nonce_c 7 (by decide) (by decide) _).mono ?_
          rintro e V283 ⟨N, rfl, HN, HNn, hb⟩
          refine hK.out _ _ (hH.trans hb) (fun hH' => ?_)
          clear hK K hH
          have hH := hH'
          clear hH'
          try simp only [List.setIfInBounds_toArray, List.set]
          replace Lx : Hid (Lt V283 bx [97, 100]) := Lx.out.later hb
          clear hb
          refine wpAnyH_ready (rs := [3]) (by kernel_rfl) (by simp) ?_
          refine AllReadyH.cons (o := ?ok284) ?hk284 (fun K hK => ?sk284) AllReadyH.nil
          case hk284 => simp only [List.getElem?_toArray]; rfl
          case sk284 =>
            have hcv := conv_mark V283 bx [97, 100] 2 2 Lx.out
            simp only [List.length_cons, List.length_nil, Nat.zero_add, Nat.reduceAdd] at hcv
            go_simp
            clear hcv
            have Rx : Hid (Rd (V283.freeze ⟨bx, 2, none⟩ 1) (some ⟨bx, 0, none⟩) 2 2 [97, 100]) := (Lx.out.rd (byt5 _ (by decide)) 2 (by decide)).frz _ _
            refine hK.out _ _ (ext_frz hH bx 2 gx) (fun hH' => ?_)
            clear hK K hH
            have hH := hH'
            clear hH'
            try simp only [List.setIfInBounds_toArray, List.set]
            clear Lx
            obtain ⟨x286, hnew⟩ : ∃ v, v = (V283.freeze ⟨bx, 2, none⟩ 1) := ⟨_, rfl⟩
            rw [← hnew] at hH Rx ⊢
            clear hnew
            exact hrest x286 bx N ⟨hH, Rx, HN, HNn⟩
        case sk281 =>
          have hcv := conv_mark x279 bx [97, 100] 2 2 Lx.out
          simp only [List.length_cons, List.length_nil, Nat.zero_add, Nat.reduceAdd] at hcv
          go_simp
          clear hcv
          have Rx : Hid (Rd (x279.freeze ⟨bx, 2, none⟩ 1) (some ⟨bx, 0, none⟩) 2 2 [97, 100]) := (Lx.out.rd (byt5 _ (by decide)) 2 (by decide)).frz _ _
          refine hK.out _ _ (ext_frz hH bx 2 gx) (fun hH' => ?_)
          clear hK K hH
          have hH := hH'
          clear hH'
          try simp only [List.setIfInBounds_toArray, List.set]
          clear Lx
          obtain ⟨x288, hnew⟩ : ∃ v, v = (x279.freeze ⟨bx, 2, none⟩ 1) := ⟨_, rfl⟩
          rw [← hnew] at hH Rx ⊢
          clear hnew
          refine wpAnyH_ready (rs := [1]) (by kernel_rfl) (by simp) ?_
          refine AllReadyH.cons (o := ?ok289) ?hk289 (fun K hK => ?sk289) AllReadyH.nil
          case hk289 => simp only [List.getElem?_toArray]; rfl
          case sk289 =>
            go_simp
            refine (nonce_c 7 (by decide) (by decide) _).mono ?_
            rintro e V291 ⟨N, rfl, HN, HNn, hb⟩
            refine hK.out _ _ (hH.trans hb) (fun hH' => ?_)
            clear hK K hH
            have hH := hH'
            clear hH'
            try simp only [List.setIfInBounds_toArray, List.set]
            replace Rx : Hid (Rd V291 (some ⟨bx, 0, none⟩) 2 2 [97, 100]) := Rx.out.below hb
            clear hb
            exact hrest V291 bx N ⟨hH, Rx, HN, HNn⟩
    case hr =>
      rintro Y3 bx N2 ⟨hE, Rx, HN, HNn⟩
      have hH := hE.out
      clear hE
      refine wpAnyH_ready (rs := [5]) (by kernel_rfl) (by simp) ?_
      refine AllReadyH.cons (o := ?o5v) ?h5v (fun K hK => ?_) AllReadyH.nil
      case h5v => simp only [List.getElem?_toArray]; rfl
      go_simp
      refine (open_c key N2 (some ⟨bx, 0, none⟩) 2 2 [97, 100] (some ⟨gB, 0, none⟩) mB mB XB HK.out HNn.out _ Rx.out ((OB.out.later hH).rd) (by decide) (by omega)).mono ?_
      rintro e V3 ⟨aT, mT, cT, XT, ET, rfl, HET, HXT, RT, hb⟩
      refine hK.out _ _ (hH.trans hb) (fun hH' => ?_)
      clear hK K hH
      have hH := hH'
      clear hH'
      try simp only [List.setIfInBounds_toArray, List.set]
      refine wpAnyH_take (i := 6) (oi := ?o6v) (v := ?v6v) ?h6v (by kernel_rfl) ?f6v ?r6v (fun _ _ _ h => h) (Or.inl ⟨?w6v, ?y6v⟩) (by assumption) ?t6v
      case h6v => simp only [List.getElem?_toArray]; rfl
      case f6v => kernel_rfl
      case r6v => kernel_rfl
      case w6v => rfl
      case y6v => (intro u hu; (go_simp) <;> with_reducible rfl)
      try simp only [Act.put, List.setIfInBounds_toArray, List.set_cons_zero, List.set_cons_succ]
      refine wpAnyH_take (i := 7) (oi := ?o7v) (v := ?v7v) ?h7v (by kernel_rfl) ?f7v ?r7v (fun _ _ _ h => h) (Or.inl ⟨?w7v, ?y7v⟩) (by assumption) ?t7v
      case h7v => simp only [List.getElem?_toArray]; rfl
      case f7v => kernel_rfl
      case r7v => kernel_rfl
      case w7v => rfl
      case y7v => (intro u hu; (go_simp) <;> with_reducible rfl)
      try simp only [Act.put, List.setIfInBounds_toArray, List.set_cons_zero, List.set_cons_succ]
      refine wpAnyH_take (i := 8) (oi := ?o8v) (v := ?v8v) ?h8v (by kernel_rfl) ?f8v ?r8v (fun _ _ _ h => h) (Or.inl ⟨?w8v, ?y8v⟩) (by assumption) ?t8v
      case h8v => simp only [List.getElem?_toArray]; rfl
      case f8v => kernel_rfl
      case r8v => kernel_rfl
      case w8v => rfl
      case y8v => (intro u hu; (go_simp) <;> with_reducible rfl)
      try simp only [Act.put, List.setIfInBounds_toArray, List.set_cons_zero, List.set_cons_succ]
      refine wpAnyH_take (i := 9) (oi := ?o9v) (v := ?v9v) ?h9v (by kernel_rfl) ?f9v ?r9v (fun _ _ _ h => h) (Or.inl ⟨?w9v, ?y9v⟩) (by assumption) ?t9v
      case h9v => simp only [List.getElem?_toArray]; rfl
      case f9v => kernel_rfl
      case r9v => kernel_rfl
      case w9v => rfl
      case y9v => (intro u hu; (go_simp) <;> with_reducible rfl)
      try simp only [Act.put, List.setIfInBounds_toArray, List.set_cons_zero, List.set_cons_succ]
      refine wpAnyH_take (i := 10) (oi := ?o10v) (v := ?v10v) ?h10v (by kernel_rfl) ?f10v ?r10v (fun _ _ _ h => h) (Or.inl ⟨?w10v, ?y10v⟩) (by assumption) ?t10v
      case h10v => simp only [List.getElem?_toArray]; rfl
      case f10v => kernel_rfl
      case r10v => kernel_rfl
      case w10v => rfl
      case y10v => (intro u hu; (go_simp) <;> with_reducible rfl)
      try simp only [Act.put, List.setIfInBounds_toArray, List.set_cons_zero, List.set_cons_succ]
      refine wpAnyH_done (by kernel_rfl) ?_ _
      refine NoPanic.normal ?_
      replace hb : Below V2.heap.size V2 V3 := hH
      have hET : ET = 0 := by rw [HET.out, HXB2.out, HN.out, er6_back]
      have HXT2 : Hid (XT = [116, 101, 120, 116]) := by unfold Hid; rw [HXT.out, HXB2.out, HN.out, op6_back _ _ _ (byt5 _ (by decide))]
      clear hH Rx HET HXT HN HNn
      replace AK : Hid (Ar V3 bK 32 (List.map (Value.int .u8) key)) := AK.out.later hb
      replace HB : Hid (Below w.heap.size w V3) := HB.out.trans (hb.mono HB.out.size)
      clear hb
      go_upto_region 4 with fail
      refine wp_region_noPanic ?_
      refine wp_region_held_drew (S := Ext V3) (by kernel_rfl) (Ext.refl _).drew (fun hH => ?_)
      change wpAnyH _ _ _ _ _ _ #[false, false, false, false, false, false, false, false, false] _ _
      refine wpAnyH_take (i := 0) (oi := ?o0w) (v := .agg (List.map (Value.int .u8) key).toArray) ?h0w (by kernel_rfl) ?f0w ?r0w (fun _ _ _ h => h) ?y0w (by assumption) ?t0w
      case h0w => simp only [List.getElem?_toArray]; rfl
      case f0w => kernel_rfl
      case r0w => kernel_rfl
      case y0w => exact yieldsIf_load_mid (by rfl) 22 (.tmp 1) rfl bK 0 rfl (List.map (Value.int .u8) key) _ (fun u hu => range_later hu AK.out.rng) Tryd.underlying22 rfl hiK
      try simp only [Act.put, List.setIfInBounds_toArray, List.set_cons_zero, List.set_cons_succ]
      generalize V3.drew = y0 at *
      revert hH
      apply cut2 (F := fun u x N => Hid (Ext V3 u) ∧ Hid (Ow u x 15 (List.replicate 15 0)) ∧ Hid (N = nn6 7) ∧ Hid (Bn 12 N))
      case h =>
        intro hrest hH
        refine wpAnyH_ready (rs := [1, 2]) (by kernel_rfl) (by simp) ?_
        refine AllReadyH.cons (o := ?ok292) ?hk292 (fun K hK => ?sk292) (AllReadyH.cons (o := ?ok293) ?hk293 (fun K hK => ?sk293) AllReadyH.nil)
        case hk292 => simp only [List.getElem?_toArray]; rfl
        case hk293 => simp only [List.getElem?_toArray]; rfl
        case sk292 =>
          go_simp
          refine (nonce_c 7 (by decide) (by decide) _).mono ?_
          rintro e V295 ⟨N, rfl, HN, HNn, hb⟩
          refine hK.out _ _ (hH.trans hb) (fun hH' => ?_)
          clear hK K hH
          have hH := hH'
          clear hH'
          try simp only [List.setIfInBounds_toArray, List.set]
          clear hb
          refine wpAnyH_ready (rs := [2]) (by kernel_rfl) (by simp) ?_
          refine AllReadyH.cons (o := ?ok296) ?hk296 (fun K hK => ?sk296) AllReadyH.nil
          case hk296 => simp only [List.getElem?_toArray]; rfl
          case sk296 =>
            obtain ⟨V298, hrun, hO, hb⟩ := make_l V295 15 (by decide)
            refine step_make_run rfl (.const (.int .i64 15)) (.const (.int .i64 15)) 24 rfl _ _ rfl rfl _ _ hrun ?_
            have Ox : Hid (Ow V298 V295.heap.size 15 (List.replicate 15 0)) := hO
            refine hK.out _ _ (hH.trans hb) (fun hH' => ?_)
            clear hK K hH
            have hH := hH'
            clear hH'
            try simp only [List.setIfInBounds_toArray, List.set]
            obtain ⟨bx, hbn⟩ : ∃ v, v = V295.heap.size := ⟨_, rfl⟩
            rw [← hbn] at Ox ⊢
            clear hb hrun hO hbn
            exact hrest V298 bx N ⟨hH, Ox, HN, HNn⟩
        case sk293 =>
          obtain ⟨V300, hrun, hO, hb⟩ := make_l y0 15 (by decide)
          refine step_make_run rfl (.const (.int .i64 15)) (.const (.int .i64 15)) 24 rfl _ _ rfl rfl _ _ hrun ?_
          have Ox : Hid (Ow V300 y0.heap.size 15 (List.replicate 15 0)) := hO
          refine hK.out _ _ (hH.trans hb) (fun hH' => ?_)
          clear hK K hH
          have hH := hH'
          clear hH'
          try simp only [List.setIfInBounds_toArray, List.set]
          obtain ⟨bx, hbn⟩ : ∃ v, v = y0.heap.size := ⟨_, rfl⟩
          rw [← hbn] at Ox ⊢
          clear hb hrun hO hbn
          refine wpAnyH_ready (rs := [1]) (by kernel_rfl) (by simp) ?_
          refine AllReadyH.cons (o := ?ok301) ?hk301 (fun K hK => ?sk301) AllReadyH.nil
          case hk301 => simp only [List.getElem?_toArray]; rfl
          case sk301 =>
            go_simp
            refine (nonce_c 7 (by decide) (by decide) _).mono ?_
            rintro e V303 ⟨N, rfl, HN, HNn, hb⟩
            refine hK.out _ _ (hH.trans hb) (fun hH' => ?_)
            clear hK K hH
            have hH := hH'
            clear hH'
            try simp only [List.setIfInBounds_toArray, List.set]
            replace Ox : Hid (Ow V303 bx 15 (List.replicate 15 0)) := Ox.out.later hb
            clear hb
            exact hrest V303 bx N ⟨hH, Ox, HN, HNn⟩
      case hr =>
        rintro Y4 bx N3 ⟨hE, Ox, HN, HNn⟩
        have hH := hE.out
        clear hE
        refine wpAnyH_ready (rs := [3]) (by kernel_rfl) (by simp) ?_
        refine AllReadyH.cons (o := ?o3z) ?h3z (fun K hK => ?_) AllReadyH.nil
        case h3z => simp only [List.getElem?_toArray]; rfl
        go_simp
        refine (open_c key N3 none 0 0 [] (some ⟨bx, 0, none⟩) 15 15 (List.replicate 15 0) HK.out HNn.out _ (Rd.nil _ _ _ (fun _ => rfl)) Ox.out.rd (by decide) (by decide)).mono ?_
        rintro e V4 ⟨aF, mF, cF, XF, EF, rfl, HEF, -, -, hb⟩
        refine hK.out _ _ (hH.trans hb) (fun hH' => ?_)
        clear hK K hH
        have hH := hH'
        clear hH'
        try simp only [List.setIfInBounds_toArray, List.set]
        refine wpAnyH_take (i := 4) (oi := ?o4z) (v := ?v4z) ?h4z (by kernel_rfl) ?f4z ?r4z (fun _ _ _ h => h) (Or.inl ⟨?w4z, ?y4z⟩) (by assumption) ?t4z
        case h4z => simp only [List.getElem?_toArray]; rfl
        case f4z => kernel_rfl
        case r4z => kernel_rfl
        case w4z => rfl
        case y4z => (intro u hu; (go_simp) <;> with_reducible rfl)
        try simp only [Act.put, List.setIfInBounds_toArray, List.set_cons_zero, List.set_cons_succ]
        refine wpAnyH_take (i := 5) (oi := ?o5z) (v := ?v5z) ?h5z (by kernel_rfl) ?f5z ?r5z (fun _ _ _ h => h) (Or.inl ⟨?w5z, ?y5z⟩) (by assumption) ?t5z
        case h5z => simp only [List.getElem?_toArray]; rfl
        case f5z => kernel_rfl
        case r5z => kernel_rfl
        case w5z => rfl
        case y5z => (intro u hu; (go_simp) <;> with_reducible rfl)
        try simp only [Act.put, List.setIfInBounds_toArray, List.set_cons_zero, List.set_cons_succ]
        refine wpAnyH_take (i := 6) (oi := ?o6z) (v := ?v6z) ?h6z (by kernel_rfl) ?f6z ?r6z (fun _ _ _ h => h) (Or.inl ⟨?w6z, ?y6z⟩) (by assumption) ?t6z
        case h6z => simp only [List.getElem?_toArray]; rfl
        case f6z => kernel_rfl
        case r6z => kernel_rfl
        case w6z => rfl
        case y6z => (intro u hu; (go_simp) <;> with_reducible rfl)
        try simp only [Act.put, List.setIfInBounds_toArray, List.set_cons_zero, List.set_cons_succ]
        refine wpAnyH_take (i := 7) (oi := ?o7z) (v := ?v7z) ?h7z (by kernel_rfl) ?f7z ?r7z (fun _ _ _ h => h) (Or.inl ⟨?w7z, ?y7z⟩) (by assumption) ?t7z
        case h7z => simp only [List.getElem?_toArray]; rfl
        case f7z => kernel_rfl
        case r7z => kernel_rfl
        case w7z => rfl
        case y7z => (intro u hu; (go_simp) <;> with_reducible rfl)
        try simp only [Act.put, List.setIfInBounds_toArray, List.set_cons_zero, List.set_cons_succ]
        refine wpAnyH_take (i := 8) (oi := ?o8z) (v := ?v8z) ?h8z (by kernel_rfl) ?f8z ?r8z (fun _ _ _ h => h) (Or.inl ⟨?w8z, ?y8z⟩) (by assumption) ?t8z
        case h8z => simp only [List.getElem?_toArray]; rfl
        case f8z => kernel_rfl
        case r8z => kernel_rfl
        case w8z => rfl
        case y8z => (intro u hu; (go_simp) <;> with_reducible rfl)
        try simp only [Act.put, List.setIfInBounds_toArray, List.set_cons_zero, List.set_cons_succ]
        refine wpAnyH_done (by kernel_rfl) ?_ _
        refine NoPanic.normal ?_
        replace hb : Below V3.heap.size V3 V4 := hH
        have hEF : EF = 7 := by rw [HEF.out, er6_short _ _ _ _ (by decide)]
        clear hH Ox HN HNn HEF
        replace RT : Hid (Rd V4 aT mT cT XT) := RT.out.below hb
        replace HB : Hid (Below w.heap.size w V4) := HB.out.trans (hb.mono HB.out.size)
        clear hb
        have sx : (convert 24 9 (.slice aT mT cT)).run Tryd.prog V4 = .ok (.string { data := #[116, 101, 120, 116] }) V4 := by
          have := str_of RT.out
          rw [HXT2.out, str_text] at this
          exact this
        clear AK hiK RT HXT2 HXB2 OB
        have hmB : mB = 20 := HmB.out
        subst hmB
        clear HmB hmBl
        go_wp2_with fail
        refine (nonce_c 258 (by decide) (by decide) _).mono ?_
        rintro e V5 ⟨N5, rfl, HN5, HN5n, hb⟩
        replace HB : Hid (Below w.heap.size w V5) := HB.out.trans (hb.mono HB.out.size)
        clear hb
        have heq : ∀ u, Sem.run Tryd.prog (binOp .eql 23 (.agg (List.map (Value.int .u8) N5).toArray) (.agg #[.int .u8 0, .int .u8 0, .int .u8 0, .int .u8 0, .int .u8 2, .int .u8 1, .int .u8 0, .int .u8 0, .int .u8 0, .int .u8 0, .int .u8 0, .int .u8 0])) u = .ok (.bool true) u := fun u => eql12 N5 [0, 0, 0, 0, 2, 1, 0, 0, 0, 0, 0, 0] HN5n.out (by rw [HN5.out, nn6_258]) u
        go_wp2
        go_ret
        exact ⟨rfl, HB.out⟩
end Go.Proofs.YtppmodncljigcaaDoor
