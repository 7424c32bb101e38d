/-
  BlakeKnown's walk. No statement of the seat is proved here.
-/
import Derived.Test.YtgblbhocpafgcaaDoorBKn
import Derived.Test.YtgblbhocpafgcaaDoorKLit
namespace Go.Proofs.YtgblbhocpafgcaaDoor
open Go.RowKit

set_option maxRecDepth 8000 in
set_option maxHeartbeats 8000000 in
theorem blakeKnown_walk (w : World) (hg : Gb w) : Calls Tryd.prog 3 #[] w fun e w' => e = .returned (.bool true) ∧ Below w.heap.size w w' := by
  have HG : Hid (Gb w) := hg
  have g0 := hg.ivlt
  have g1 := hg.sglt
  clear hg
  go_enter Tryd.func3, Tryd.ntmps3
  go_wp2_with fail
  refine (new_c _ HG.out).mono ?_
  rintro e V0 ⟨rfl, HX, hb⟩
  obtain ⟨b0, hb0⟩ : ∃ q, q = w.heap.size := ⟨_, rfl⟩
  rw [← hb0] at HX ⊢
  have HB0 : Hid (b0 = w.heap.size) := hb0
  have HB : Hid (Below w.heap.size w V0) := hb
  clear hb hb0
  go_wp2_with fail
  refine (known7_any _ (HG.out.later HB.out)).mono ?_
  rintro e V1 ⟨rfl, hb⟩
  replace HX : Hid (Hx V1 b0 []) := HX.out.later hb
  replace HB : Hid (Below w.heap.size w V1) := HB.out.trans (hb.mono HB.out.size)
  clear hb
  go_wp2_with fail
  refine (sumh_c b0 [] _ HX.out (HG.out.later HB.out) (by decide)).mono ?_
  rintro e V2 ⟨S0, rfl, HS0, hb⟩
  replace HX : Hid (Hx V2 b0 []) := HX.out.later hb
  replace HB : Hid (Below w.heap.size w V2) := HB.out.trans (hb.mono HB.out.size)
  have hSn0 : Hid (Bn 32 S0) := by unfold Hid; rw [HS0.out]; exact sum7_bn _
  have hbV : b0 < V2.heap.size := HX.out.lt
  clear hb
  obtain ⟨hlenb2, honeb2, hib2⟩ := bn32_cells hSn0.out
  obtain ⟨csb2, hcs⟩ : ∃ cs, cs = (List.map (Value.int .u8) S0) := ⟨_, rfl⟩
  rw [← hcs] at hlenb2 honeb2 hib2 ⊢
  have HCb2 : Hid (csb2 = (List.map (Value.int .u8) S0)) := hcs
  clear hcs
  have hth := there_new V2 32 #[.int .u8 0, .int .u8 0, .int .u8 0, .int .u8 0, .int .u8 0, .int .u8 0, .int .u8 0, .int .u8 0, .int .u8 0, .int .u8 0, .int .u8 0, .int .u8 0, .int .u8 0, .int .u8 0, .int .u8 0, .int .u8 0, .int .u8 0, .int .u8 0, .int .u8 0, .int .u8 0, .int .u8 0, .int .u8 0, .int .u8 0, .int .u8 0, .int .u8 0, .int .u8 0, .int .u8 0, .int .u8 0, .int .u8 0, .int .u8 0, .int .u8 0, .int .u8 0] rfl 25
  have Ab2 : Hid (Ar ((V2.alloc (.cells #[.int .u8 0, .int .u8 0, .int .u8 0, .int .u8 0, .int .u8 0, .int .u8 0, .int .u8 0, .int .u8 0, .int .u8 0, .int .u8 0, .int .u8 0, .int .u8 0, .int .u8 0, .int .u8 0, .int .u8 0, .int .u8 0, .int .u8 0, .int .u8 0, .int .u8 0, .int .u8 0, .int .u8 0, .int .u8 0, .int .u8 0, .int .u8 0, .int .u8 0, .int .u8 0, .int .u8 0, .int .u8 0, .int .u8 0, .int .u8 0, .int .u8 0, .int .u8 0] 25)).setCells V2.heap.size 0 csb2) V2.heap.size 32 (List.map (Value.int .u8) S0)) := by rw [← HCb2.out]; exact ar_var _ _ 32 rfl _ _ hlenb2
  have hX : Below V2.heap.size V2 ((V2.alloc (.cells #[.int .u8 0, .int .u8 0, .int .u8 0, .int .u8 0, .int .u8 0, .int .u8 0, .int .u8 0, .int .u8 0, .int .u8 0, .int .u8 0, .int .u8 0, .int .u8 0, .int .u8 0, .int .u8 0, .int .u8 0, .int .u8 0, .int .u8 0, .int .u8 0, .int .u8 0, .int .u8 0, .int .u8 0, .int .u8 0, .int .u8 0, .int .u8 0, .int .u8 0, .int .u8 0, .int .u8 0, .int .u8 0, .int .u8 0, .int .u8 0, .int .u8 0, .int .u8 0] 25)).setCells V2.heap.size 0 csb2) := bel_var _ _ _ _
  go_upto_region 5 with (refine wpList_store_mid rfl 25 (.tmp 2) (.tmp 11) rfl V2.heap.size 0 csb2.toArray rfl rfl (by simpa [hlenb2] using hth) (by simpa using hib2) (all_oneCell_toArray honeb2) ?_)
  clear hth honeb2 hlenb2
  obtain ⟨W1, hnew⟩ : ∃ W, W = ((V2.alloc (.cells #[.int .u8 0, .int .u8 0, .int .u8 0, .int .u8 0, .int .u8 0, .int .u8 0, .int .u8 0, .int .u8 0, .int .u8 0, .int .u8 0, .int .u8 0, .int .u8 0, .int .u8 0, .int .u8 0, .int .u8 0, .int .u8 0, .int .u8 0, .int .u8 0, .int .u8 0, .int .u8 0, .int .u8 0, .int .u8 0, .int .u8 0, .int .u8 0, .int .u8 0, .int .u8 0, .int .u8 0, .int .u8 0, .int .u8 0, .int .u8 0, .int .u8 0, .int .u8 0] 25)).setCells V2.heap.size 0 csb2) := ⟨_, rfl⟩
  obtain ⟨b2, hblk⟩ : ∃ q, q = V2.heap.size := ⟨_, rfl⟩
  rw [← hnew] at Ab2 hX ⊢
  rw [← hblk] at Ab2 ⊢
  rw [HCb2.out] at hib2
  clear hnew HCb2
  replace HX : Hid (Hx W1 b0 []) := HX.out.later hX
  replace HB : Hid (Below w.heap.size w W1) := HB.out.trans (hX.mono HB.out.size)
  have hb02 : b2 ≠ b0 := by omega
  have hbW : b0 < W1.heap.size := HX.out.lt
  clear hX hblk hbV
  have v1 := Go.Lib.run_convert_bytes_const (P := Tryd.prog) W1 28 5 #[.int .u8 97, .int .u8 98] 2 2 Tryd.underlying28 Tryd.underlying5
  simp only [List.size_toArray, List.length_cons, List.length_nil, Nat.zero_add, Nat.reduceAdd] at v1
  have HR1 : Hid (Rd (W1.alloc (.cells #[.int .u8 97, .int .u8 98] 5 (2, 3))) (some ⟨W1.heap.size, 0, none⟩) 2 2 [97, 98]) := (rd_mark W1 [97, 98] (byt5 _ (by decide)) 5 (2, 3) 2 (by decide) #[.int .u8 97, .int .u8 98] (fun i hi => by match i, hi with  | 0, _ => rfl | 1, _ => rfl))
  have hb1 := bel1 W1 (.cells #[.int .u8 97, .int .u8 98] 5 (2, 3))
  have HX1 : Hid (Hx (W1.alloc (.cells #[.int .u8 97, .int .u8 98] 5 (2, 3))) b0 []) := HX.out.later hb1
  have HA1 : Hid (Ar (W1.alloc (.cells #[.int .u8 97, .int .u8 98] 5 (2, 3))) b2 32 (List.map (Value.int .u8) S0)) := Ab2.out.later hb1
  have HB1 : Hid (Below w.heap.size w (W1.alloc (.cells #[.int .u8 97, .int .u8 98] 5 (2, 3)))) := HB.out.trans (hb1.mono HB.out.size)
  go_wp2_with fail
  refine (write_c b0 [] (some ⟨W1.heap.size, 0, none⟩) 2 2 [97, 98] _ HX1.out (HG.out.later HB1.out) (by have := HB0.out; omega) (by have := HB0.out; omega) HR1.out (fun _ p hp => by cases hp; dsimp only; omega) (by decide)).mono ?_
  rintro e W2 ⟨rfl, HX2, hb⟩
  replace Ab2 : Hid (Ar W2 b2 32 (List.map (Value.int .u8) S0)) := HA1.out.extb hb hb02
  replace HB : Hid (Below w.heap.size w W2) := hb.below HB1.out (by have := HB0.out; omega)
  have hbW2 : b0 < W2.heap.size := HX2.out.lt
  clear hb hb1 v1 HR1 HX1 HA1 HB1 HX hbW
  have v1 := Go.Lib.run_convert_bytes_const (P := Tryd.prog) W2 28 5 #[.int .u8 99] 1 1 Tryd.underlying28 Tryd.underlying5
  simp only [List.size_toArray, List.length_cons, List.length_nil, Nat.zero_add, Nat.reduceAdd] at v1
  have HR1 : Hid (Rd (W2.alloc (.cells #[.int .u8 99] 5 (1, 2))) (some ⟨W2.heap.size, 0, none⟩) 1 1 [99]) := (rd_mark W2 [99] (byt5 _ (by decide)) 5 (1, 2) 1 (by decide) #[.int .u8 99] (fun i hi => by match i, hi with  | 0, _ => rfl))
  have hb1 := bel1 W2 (.cells #[.int .u8 99] 5 (1, 2))
  have HX1 : Hid (Hx (W2.alloc (.cells #[.int .u8 99] 5 (1, 2))) b0 ([] ++ [97, 98])) := HX2.out.later hb1
  have HA1 : Hid (Ar (W2.alloc (.cells #[.int .u8 99] 5 (1, 2))) b2 32 (List.map (Value.int .u8) S0)) := Ab2.out.later hb1
  have HB1 : Hid (Below w.heap.size w (W2.alloc (.cells #[.int .u8 99] 5 (1, 2)))) := HB.out.trans (hb1.mono HB.out.size)
  go_wp2_with fail
  refine (write_c b0 ([] ++ [97, 98]) (some ⟨W2.heap.size, 0, none⟩) 1 1 [99] _ HX1.out (HG.out.later HB1.out) (by have := HB0.out; omega) (by have := HB0.out; omega) HR1.out (fun _ p hp => by cases hp; dsimp only; omega) (by decide)).mono ?_
  rintro e W3 ⟨rfl, HX3, hb⟩
  have HX : Hid (Hx W3 b0 abc7) := HX3.out
  replace Ab2 : Hid (Ar W3 b2 32 (List.map (Value.int .u8) S0)) := HA1.out.extb hb hb02
  replace HB : Hid (Below w.heap.size w W3) := hb.below HB1.out (by have := HB0.out; omega)
  replace HG : Hid (Gb W3) := HG.out.later HB.out
  clear hb hb1 v1 HR1 HX1 HA1 HB1 HX2 HX3 hbW2
  go_upto_region 7 with fail
  refine wp_region_noPanic ?_
  refine wp_region_held_drew (S := Ext W3) (by kernel_rfl) (Ext.refl _).drew (fun hH => ?_)
  change wpAnyH _ _ _ _ _ _ #[false, false, false, false, false, false, false, false, false, false, false, false, false, false, false, false, false, false, false, false, false, false] _ _
  refine wpAnyH_take (i := 0) (oi := ?o0r) (v := .agg (List.map (Value.int .u8) S0).toArray) ?h0r (by kernel_rfl) ?f0r ?r0r (fun _ _ _ h => h) ?y0r (by assumption) ?t0r
  case h0r => simp only [List.getElem?_toArray]; rfl
  case f0r => kernel_rfl
  case r0r => kernel_rfl
  case y0r => exact yieldsIf_load_mid (by rfl) 25 (.tmp 2) rfl b2 0 rfl (List.map (Value.int .u8) S0) _ (fun u hu => range_later hu Ab2.out.rng) Tryd.underlying25 rfl hib2
  try simp only [Act.put, List.setIfInBounds_toArray, List.set_cons_zero, List.set_cons_succ]
  obtain ⟨y0, hy0⟩ : ∃ V, V = W3.drew := ⟨_, rfl⟩
  rw [← hy0] at hH ⊢
  clear hy0
  refine wpAnyH_ready (rs := [1]) (by kernel_rfl) (by simp) ?_
  refine AllReadyH.cons (o := ?o1r) ?h1r (fun K hK => ?_) AllReadyH.nil
  case h1r => simp only [List.getElem?_toArray]; rfl
  go_simp
  refine (sum_c none 0 0 [] _ (RdL.nil _ _) (HG.out.later hH) (by decide) (by decide)).mono ?_
  rintro e V ⟨S1, rfl, HS1, hb⟩
  have heq : ∀ u, Sem.run Tryd.prog (binOp .eql 25 (.agg (List.map (Value.int .u8) S0).toArray) (.agg (List.map (Value.int .u8) S1).toArray)) u = .ok (.bool true) u := fun u => eql32 S0 S1 hSn0.out (by rw [HS0.out, HS1.out]; rfl) u
  refine hK.out _ _ (hH.trans hb) (fun hH' => ?_)
  clear hK K hH
  have hH := hH'
  clear hH'
  try simp only [List.setIfInBounds_toArray, List.set]
  refine wpAnyH_take (i := 2) (oi := ?o2r) (v := ?v2r) ?h2r (by kernel_rfl) ?f2r ?r2r (fun _ _ _ h => h) (Or.inl ⟨?w2r, ?y2r⟩) (by assumption) ?t2r
  case h2r => simp only [List.getElem?_toArray]; rfl
  case f2r => kernel_rfl
  case r2r => kernel_rfl
  case w2r => rfl
  case y2r => (intro u hu; (go_simp) <;> with_reducible rfl)
  try simp only [Act.put, List.setIfInBounds_toArray, List.set_cons_zero, List.set_cons_succ]
  clear heq HS1 hb
  refine wpAnyH_take (i := 3) (oi := ?o3r) (v := ?v3r) ?h3r (by kernel_rfl) ?f3r ?r3r (fun _ _ _ h => h) (Or.inl ⟨?w3r, ?y3r⟩) (by assumption) ?t3r
  case h3r => simp only [List.getElem?_toArray]; rfl
  case f3r => kernel_rfl
  case r3r => kernel_rfl
  case w3r => rfl
  case y3r => (intro u hu; (go_simp) <;> with_reducible rfl)
  try simp only [Act.put, List.setIfInBounds_toArray, List.set_cons_zero, List.set_cons_succ]
  refine wpAnyH_take (i := 4) (oi := ?o4r) (v := ?v4r) ?h4r (by kernel_rfl) ?f4r ?r4r (fun _ _ _ h => h) (Or.inl ⟨?w4r, ?y4r⟩) (by assumption) ?t4r
  case h4r => simp only [List.getElem?_toArray]; rfl
  case f4r => kernel_rfl
  case r4r => kernel_rfl
  case w4r => rfl
  case y4r => (intro u hu; (go_simp) <;> with_reducible rfl)
  try simp only [Act.put, List.setIfInBounds_toArray, List.set_cons_zero, List.set_cons_succ]
  clear Ab2 hSn0 HS0 hib2
  revert hH
  apply cut3 (F := fun u x y N => Hid (Ext W3 u) ∧ Hid (RdL u (some ⟨y, 0, none⟩) 1 [abc7]) ∧ Hid (N = sum7 abc7))
  case h =>
    intro hrest hH
    refine wpAnyH_ready (rs := [5, 6]) (by kernel_rfl) (by simp) ?_
    refine AllReadyH.cons (o := ?ok1) ?hk1 (fun K hK => ?sk1) (AllReadyH.cons (o := ?ok2) ?hk2 (fun K hK => ?sk2) AllReadyH.nil)
    case hk1 => simp only [List.getElem?_toArray]; rfl
    case hk2 => simp only [List.getElem?_toArray]; rfl
    case sk1 =>
      go_simp
      refine (sumh_c b0 abc7 _ (HX.out.later hH) (HG.out.later hH) (by decide)).mono ?_
      rintro e V4 ⟨N, rfl, HN, hb⟩
      refine hK.out _ _ (hH.trans hb) (fun hH' => ?_)
      clear hK K hH
      have hH := hH'
      clear hH'
      try simp only [List.setIfInBounds_toArray, List.set]
      clear hb
      refine wpAnyH_ready (rs := [6]) (by kernel_rfl) (by simp) ?_
      refine AllReadyH.cons (o := ?ok5) ?hk5 (fun K hK => ?sk5) AllReadyH.nil
      case hk5 => simp only [List.getElem?_toArray]; rfl
      case sk5 =>
        go_simp
        have hb := bel1 V4 (.cells #[.int .u8 97, .int .u8 98, .int .u8 99] 5)
        have gx : W3.heap.size ≤ V4.heap.size := hH.size
        have Lx : Hid (Lt (V4.alloc (.cells #[.int .u8 97, .int .u8 98, .int .u8 99] 5)) V4.heap.size abc7) := lt_new V4 abc7
        refine hK.out _ _ (hH.trans hb) (fun hH' => ?_)
        clear hK K hH
        have hH := hH'
        clear hH'
        try simp only [List.setIfInBounds_toArray, List.set]
        obtain ⟨x7, hnew⟩ : ∃ v, v = (V4.alloc (.cells #[.int .u8 97, .int .u8 98, .int .u8 99] 5)) := ⟨_, rfl⟩
        obtain ⟨bx, hbn⟩ : ∃ v, v = V4.heap.size := ⟨_, rfl⟩
        rw [← hnew] at Lx hH ⊢
        rw [← hbn] at Lx gx ⊢
        clear hb hnew hbn
        refine wpAnyH_ready (rs := [7]) (by kernel_rfl) (by simp) ?_
        refine AllReadyH.cons (o := ?ok8) ?hk8 (fun K hK => ?sk8) AllReadyH.nil
        case hk8 => simp only [List.getElem?_toArray]; rfl
        case sk8 =>
          have hcv := conv_mark x7 bx abc7 3 3 Lx.out
          rw [show abc7.length = 3 from rfl] at hcv
          go_simp
          clear hcv
          have Rx : Hid (Rd (x7.freeze ⟨bx, 3, none⟩ 1) (some ⟨bx, 0, none⟩) 3 3 abc7) := (Lx.out.rd (byt5 _ (by decide)) 3 (by decide)).frz _ _
          refine hK.out _ _ (ext_frz hH bx 3 gx) (fun hH' => ?_)
          clear hK K hH
          have hH := hH'
          clear hH'
          try simp only [List.setIfInBounds_toArray, List.set]
          clear Lx
          obtain ⟨x10, hnew⟩ : ∃ v, v = (x7.freeze ⟨bx, 3, none⟩ 1) := ⟨_, rfl⟩
          rw [← hnew] at hH Rx ⊢
          clear hnew
          refine wpAnyH_ready (rs := [8]) (by kernel_rfl) (by simp) ?_
          refine AllReadyH.cons (o := ?ok11) ?hk11 (fun K hK => ?sk11) AllReadyH.nil
          case hk11 => simp only [List.getElem?_toArray]; rfl
          case sk11 =>
            go_simp
            have hb := bel1 x10 (.cells #[.slice (some ⟨bx, 0, none⟩) 3 3] 28)
            have Yx : Hid (RdL (x10.alloc (.cells #[.slice (some ⟨bx, 0, none⟩) 3 3] 28)) (some ⟨x10.heap.size, 0, none⟩) 1 [abc7]) := RdL.one x10 _ 3 3 abc7 28 Rx.out
            refine hK.out _ _ (hH.trans hb) (fun hH' => ?_)
            clear hK K hH
            have hH := hH'
            clear hH'
            try simp only [List.setIfInBounds_toArray, List.set]
            obtain ⟨x13, hnew⟩ : ∃ v, v = (x10.alloc (.cells #[.slice (some ⟨bx, 0, none⟩) 3 3] 28)) := ⟨_, rfl⟩
            obtain ⟨by', hbn⟩ : ∃ v, v = x10.heap.size := ⟨_, rfl⟩
            rw [← hnew] at Yx hH ⊢
            rw [← hbn] at Yx ⊢
            clear hb hnew hbn Rx
            exact hrest x13 bx by' N ⟨hH, Yx, HN⟩
    case sk2 =>
      go_simp
      have hb := bel1 V (.cells #[.int .u8 97, .int .u8 98, .int .u8 99] 5)
      have gx : W3.heap.size ≤ V.heap.size := hH.size
      have Lx : Hid (Lt (V.alloc (.cells #[.int .u8 97, .int .u8 98, .int .u8 99] 5)) V.heap.size abc7) := lt_new V abc7
      refine hK.out _ _ (hH.trans hb) (fun hH' => ?_)
      clear hK K hH
      have hH := hH'
      clear hH'
      try simp only [List.setIfInBounds_toArray, List.set]
      obtain ⟨x15, hnew⟩ : ∃ v, v = (V.alloc (.cells #[.int .u8 97, .int .u8 98, .int .u8 99] 5)) := ⟨_, rfl⟩
      obtain ⟨bx, hbn⟩ : ∃ v, v = V.heap.size := ⟨_, rfl⟩
      rw [← hnew] at Lx hH ⊢
      rw [← hbn] at Lx gx ⊢
      clear hb hnew hbn
      refine wpAnyH_ready (rs := [5, 7]) (by kernel_rfl) (by simp) ?_
      refine AllReadyH.cons (o := ?ok16) ?hk16 (fun K hK => ?sk16) (AllReadyH.cons (o := ?ok17) ?hk17 (fun K hK => ?sk17) AllReadyH.nil)
      case hk16 => simp only [List.getElem?_toArray]; rfl
      case hk17 => simp only [List.getElem?_toArray]; rfl
      case sk16 =>
        go_simp
        refine (sumh_c b0 abc7 _ (HX.out.later hH) (HG.out.later hH) (by decide)).mono ?_
        rintro e V19 ⟨N, rfl, HN, hb⟩
        refine hK.out _ _ (hH.trans hb) (fun hH' => ?_)
        clear hK K hH
        have hH := hH'
        clear hH'
        try simp only [List.setIfInBounds_toArray, List.set]
        replace Lx : Hid (Lt V19 bx abc7) := Lx.out.later hb
        clear hb
        refine wpAnyH_ready (rs := [7]) (by kernel_rfl) (by simp) ?_
        refine AllReadyH.cons (o := ?ok20) ?hk20 (fun K hK => ?sk20) AllReadyH.nil
        case hk20 => simp only [List.getElem?_toArray]; rfl
        case sk20 =>
          have hcv := conv_mark V19 bx abc7 3 3 Lx.out
          rw [show abc7.length = 3 from rfl] at hcv
          go_simp
          clear hcv
          have Rx : Hid (Rd (V19.freeze ⟨bx, 3, none⟩ 1) (some ⟨bx, 0, none⟩) 3 3 abc7) := (Lx.out.rd (byt5 _ (by decide)) 3 (by decide)).frz _ _
          refine hK.out _ _ (ext_frz hH bx 3 gx) (fun hH' => ?_)
          clear hK K hH
          have hH := hH'
          clear hH'
          try simp only [List.setIfInBounds_toArray, List.set]
          clear Lx
          obtain ⟨x22, hnew⟩ : ∃ v, v = (V19.freeze ⟨bx, 3, none⟩ 1) := ⟨_, rfl⟩
          rw [← hnew] at hH Rx ⊢
          clear hnew
          refine wpAnyH_ready (rs := [8]) (by kernel_rfl) (by simp) ?_
          refine AllReadyH.cons (o := ?ok23) ?hk23 (fun K hK => ?sk23) AllReadyH.nil
          case hk23 => simp only [List.getElem?_toArray]; rfl
          case sk23 =>
            go_simp
            have hb := bel1 x22 (.cells #[.slice (some ⟨bx, 0, none⟩) 3 3] 28)
            have Yx : Hid (RdL (x22.alloc (.cells #[.slice (some ⟨bx, 0, none⟩) 3 3] 28)) (some ⟨x22.heap.size, 0, none⟩) 1 [abc7]) := RdL.one x22 _ 3 3 abc7 28 Rx.out
            refine hK.out _ _ (hH.trans hb) (fun hH' => ?_)
            clear hK K hH
            have hH := hH'
            clear hH'
            try simp only [List.setIfInBounds_toArray, List.set]
            obtain ⟨x25, hnew⟩ : ∃ v, v = (x22.alloc (.cells #[.slice (some ⟨bx, 0, none⟩) 3 3] 28)) := ⟨_, rfl⟩
            obtain ⟨by', hbn⟩ : ∃ v, v = x22.heap.size := ⟨_, rfl⟩
            rw [← hnew] at Yx hH ⊢
            rw [← hbn] at Yx ⊢
            clear hb hnew hbn Rx
            exact hrest x25 bx by' N ⟨hH, Yx, HN⟩
      case sk17 =>
        have hcv := conv_mark x15 bx abc7 3 3 Lx.out
        rw [show abc7.length = 3 from rfl] at hcv
        go_simp
        clear hcv
        have Rx : Hid (Rd (x15.freeze ⟨bx, 3, none⟩ 1) (some ⟨bx, 0, none⟩) 3 3 abc7) := (Lx.out.rd (byt5 _ (by decide)) 3 (by decide)).frz _ _
        refine hK.out _ _ (ext_frz hH bx 3 gx) (fun hH' => ?_)
        clear hK K hH
        have hH := hH'
        clear hH'
        try simp only [List.setIfInBounds_toArray, List.set]
        clear Lx
        obtain ⟨x27, hnew⟩ : ∃ v, v = (x15.freeze ⟨bx, 3, none⟩ 1) := ⟨_, rfl⟩
        rw [← hnew] at hH Rx ⊢
        clear hnew
        refine wpAnyH_ready (rs := [5, 8]) (by kernel_rfl) (by simp) ?_
        refine AllReadyH.cons (o := ?ok28) ?hk28 (fun K hK => ?sk28) (AllReadyH.cons (o := ?ok29) ?hk29 (fun K hK => ?sk29) AllReadyH.nil)
        case hk28 => simp only [List.getElem?_toArray]; rfl
        case hk29 => simp only [List.getElem?_toArray]; rfl
        case sk28 =>
          go_simp
          refine (sumh_c b0 abc7 _ (HX.out.later hH) (HG.out.later hH) (by decide)).mono ?_
          rintro e V31 ⟨N, rfl, HN, hb⟩
          refine hK.out _ _ (hH.trans hb) (fun hH' => ?_)
          clear hK K hH
          have hH := hH'
          clear hH'
          try simp only [List.setIfInBounds_toArray, List.set]
          replace Rx : Hid (Rd V31 (some ⟨bx, 0, none⟩) 3 3 abc7) := Rx.out.below hb
          clear hb
          refine wpAnyH_ready (rs := [8]) (by kernel_rfl) (by simp) ?_
          refine AllReadyH.cons (o := ?ok32) ?hk32 (fun K hK => ?sk32) AllReadyH.nil
          case hk32 => simp only [List.getElem?_toArray]; rfl
          case sk32 =>
            go_simp
            have hb := bel1 V31 (.cells #[.slice (some ⟨bx, 0, none⟩) 3 3] 28)
            have Yx : Hid (RdL (V31.alloc (.cells #[.slice (some ⟨bx, 0, none⟩) 3 3] 28)) (some ⟨V31.heap.size, 0, none⟩) 1 [abc7]) := RdL.one V31 _ 3 3 abc7 28 Rx.out
            refine hK.out _ _ (hH.trans hb) (fun hH' => ?_)
            clear hK K hH
            have hH := hH'
            clear hH'
            try simp only [List.setIfInBounds_toArray, List.set]
            obtain ⟨x34, hnew⟩ : ∃ v, v = (V31.alloc (.cells #[.slice (some ⟨bx, 0, none⟩) 3 3] 28)) := ⟨_, rfl⟩
            obtain ⟨by', hbn⟩ : ∃ v, v = V31.heap.size := ⟨_, rfl⟩
            rw [← hnew] at Yx hH ⊢
            rw [← hbn] at Yx ⊢
            clear hb hnew hbn Rx
            exact hrest x34 bx by' N ⟨hH, Yx, HN⟩
        case sk29 =>
          go_simp
          have hb := bel1 x27 (.cells #[.slice (some ⟨bx, 0, none⟩) 3 3] 28)
          have Yx : Hid (RdL (x27.alloc (.cells #[.slice (some ⟨bx, 0, none⟩) 3 3] 28)) (some ⟨x27.heap.size, 0, none⟩) 1 [abc7]) := RdL.one x27 _ 3 3 abc7 28 Rx.out
          refine hK.out _ _ (hH.trans hb) (fun hH' => ?_)
          clear hK K hH
          have hH := hH'
          clear hH'
          try simp only [List.setIfInBounds_toArray, List.set]
          obtain ⟨x36, hnew⟩ : ∃ v, v = (x27.alloc (.cells #[.slice (some ⟨bx, 0, none⟩) 3 3] 28)) := ⟨_, rfl⟩
          obtain ⟨by', hbn⟩ : ∃ v, v = x27.heap.size := ⟨_, rfl⟩
          rw [← hnew] at Yx hH ⊢
          rw [← hbn] at Yx ⊢
          clear hb hnew hbn Rx
          refine wpAnyH_ready (rs := [5]) (by kernel_rfl) (by simp) ?_
          refine AllReadyH.cons (o := ?ok37) ?hk37 (fun K hK => ?sk37) AllReadyH.nil
          case hk37 => simp only [List.getElem?_toArray]; rfl
          case sk37 =>
            go_simp
            refine (sumh_c b0 abc7 _ (HX.out.later hH) (HG.out.later hH) (by decide)).mono ?_
            rintro e V39 ⟨N, rfl, HN, hb⟩
            refine hK.out _ _ (hH.trans hb) (fun hH' => ?_)
            clear hK K hH
            have hH := hH'
            clear hH'
            try simp only [List.setIfInBounds_toArray, List.set]
            replace Yx : Hid (RdL V39 (some ⟨by', 0, none⟩) 1 [abc7]) := Yx.out.below hb
            clear hb
            exact hrest V39 bx by' N ⟨hH, Yx, HN⟩
  case hr =>
    rintro Y1 bx by' N ⟨hE, Yx, HN⟩
    have hH := hE.out
    clear hE
    refine wpAnyH_ready (rs := [9]) (by kernel_rfl) (by simp) ?_
    refine AllReadyH.cons (o := ?o9af1) ?h9af1 (fun K hK => ?_) AllReadyH.nil
    case h9af1 => simp only [List.getElem?_toArray]; rfl
    go_simp
    refine (sum_c (some ⟨by', 0, none⟩) 1 1 [abc7] _ Yx.out (HG.out.later hH) (by decide) (by decide)).mono ?_
    rintro e V9 ⟨S2, rfl, HS2, hb⟩
    have hNn : Bn 32 N := by rw [HN.out]; exact sum7_bn _
    have heq : ∀ u, Sem.run Tryd.prog (binOp .eql 25 (.agg (List.map (Value.int .u8) N).toArray) (.agg (List.map (Value.int .u8) S2).toArray)) u = .ok (.bool true) u := fun u => eql32 N S2 hNn (by rw [HN.out, HS2.out]; rfl) u
    refine hK.out _ _ (hH.trans hb) (fun hH' => ?_)
    clear hK K hH
    have hH := hH'
    clear hH'
    try simp only [List.setIfInBounds_toArray, List.set]
    refine wpAnyH_take (i := 10) (oi := ?o10af1) (v := ?v10af1) ?h10af1 (by kernel_rfl) ?f10af1 ?r10af1 (fun _ _ _ h => h) (Or.inl ⟨?w10af1, ?y10af1⟩) (by assumption) ?t10af1
    case h10af1 => simp only [List.getElem?_toArray]; rfl
    case f10af1 => kernel_rfl
    case r10af1 => kernel_rfl
    case w10af1 => rfl
    case y10af1 => (intro u hu; (go_simp) <;> with_reducible rfl)
    try simp only [Act.put, List.setIfInBounds_toArray, List.set_cons_zero, List.set_cons_succ]
    clear heq hNn HS2 hb HN Yx
    refine wpAnyH_take (i := 11) (oi := ?o11af1) (v := ?v11af1) ?h11af1 (by kernel_rfl) ?f11af1 ?r11af1 (fun _ _ _ h => h) (Or.inl ⟨?w11af1, ?y11af1⟩) (by assumption) ?t11af1
    case h11af1 => simp only [List.getElem?_toArray]; rfl
    case f11af1 => kernel_rfl
    case r11af1 => kernel_rfl
    case w11af1 => rfl
    case y11af1 => (intro u hu; (go_simp) <;> with_reducible rfl)
    try simp only [Act.put, List.setIfInBounds_toArray, List.set_cons_zero, List.set_cons_succ]
    refine wpAnyH_take (i := 12) (oi := ?o12af1) (v := ?v12af1) ?h12af1 (by kernel_rfl) ?f12af1 ?r12af1 (fun _ _ _ h => h) (Or.inl ⟨?w12af1, ?y12af1⟩) (by assumption) ?t12af1
    case h12af1 => simp only [List.getElem?_toArray]; rfl
    case f12af1 => kernel_rfl
    case r12af1 => kernel_rfl
    case w12af1 => rfl
    case y12af1 => (intro u hu; (go_simp) <;> with_reducible rfl)
    try simp only [Act.put, List.setIfInBounds_toArray, List.set_cons_zero, List.set_cons_succ]
    refine wpAnyH_take (i := 13) (oi := ?o13af1) (v := ?v13af1) ?h13af1 (by kernel_rfl) ?f13af1 ?r13af1 (fun _ _ _ h => h) (Or.inl ⟨?w13af1, ?y13af1⟩) (by assumption) ?t13af1
    case h13af1 => simp only [List.getElem?_toArray]; rfl
    case f13af1 => kernel_rfl
    case r13af1 => kernel_rfl
    case w13af1 => rfl
    case y13af1 => (intro u hu; (go_simp) <;> with_reducible rfl)
    try simp only [Act.put, List.setIfInBounds_toArray, List.set_cons_zero, List.set_cons_succ]
    revert hH
    apply cut3 (F := fun u x y N => Hid (Ext W3 u) ∧ Hid (RdL u (some ⟨y, 0, none⟩) 1 [abc7]) ∧ Hid (N = sum7 abc7))
    case h =>
      intro hrest hH
      refine wpAnyH_ready (rs := [14, 15]) (by kernel_rfl) (by simp) ?_
      refine AllReadyH.cons (o := ?ok40) ?hk40 (fun K hK => ?sk40) (AllReadyH.cons (o := ?ok41) ?hk41 (fun K hK => ?sk41) AllReadyH.nil)
      case hk40 => simp only [List.getElem?_toArray]; rfl
      case hk41 => simp only [List.getElem?_toArray]; rfl
      case sk40 =>
        go_simp
        refine (sumh_c b0 abc7 _ (HX.out.later hH) (HG.out.later hH) (by decide)).mono ?_
        rintro e V43 ⟨N, rfl, HN, hb⟩
        refine hK.out _ _ (hH.trans hb) (fun hH' => ?_)
        clear hK K hH
        have hH := hH'
        clear hH'
        try simp only [List.setIfInBounds_toArray, List.set]
        clear hb
        refine wpAnyH_ready (rs := [15]) (by kernel_rfl) (by simp) ?_
        refine AllReadyH.cons (o := ?ok44) ?hk44 (fun K hK => ?sk44) AllReadyH.nil
        case hk44 => simp only [List.getElem?_toArray]; rfl
        case sk44 =>
          go_simp
          have hb := bel1 V43 (.cells #[.int .u8 97, .int .u8 98, .int .u8 99] 5)
          have gx : W3.heap.size ≤ V43.heap.size := hH.size
          have Lx : Hid (Lt (V43.alloc (.cells #[.int .u8 97, .int .u8 98, .int .u8 99] 5)) V43.heap.size abc7) := lt_new V43 abc7
          refine hK.out _ _ (hH.trans hb) (fun hH' => ?_)
          clear hK K hH
          have hH := hH'
          clear hH'
          try simp only [List.setIfInBounds_toArray, List.set]
          obtain ⟨x46, hnew⟩ : ∃ v, v = (V43.alloc (.cells #[.int .u8 97, .int .u8 98, .int .u8 99] 5)) := ⟨_, rfl⟩
          obtain ⟨bx, hbn⟩ : ∃ v, v = V43.heap.size := ⟨_, rfl⟩
          rw [← hnew] at Lx hH ⊢
          rw [← hbn] at Lx gx ⊢
          clear hb hnew hbn
          refine wpAnyH_ready (rs := [16]) (by kernel_rfl) (by simp) ?_
          refine AllReadyH.cons (o := ?ok47) ?hk47 (fun K hK => ?sk47) AllReadyH.nil
          case hk47 => simp only [List.getElem?_toArray]; rfl
          case sk47 =>
            have hcv := conv_mark x46 bx abc7 3 3 Lx.out
            rw [show abc7.length = 3 from rfl] at hcv
            go_simp
            clear hcv
            have Rx : Hid (Rd (x46.freeze ⟨bx, 3, none⟩ 1) (some ⟨bx, 0, none⟩) 3 3 abc7) := (Lx.out.rd (byt5 _ (by decide)) 3 (by decide)).frz _ _
            refine hK.out _ _ (ext_frz hH bx 3 gx) (fun hH' => ?_)
            clear hK K hH
            have hH := hH'
            clear hH'
            try simp only [List.setIfInBounds_toArray, List.set]
            clear Lx
            obtain ⟨x49, hnew⟩ : ∃ v, v = (x46.freeze ⟨bx, 3, none⟩ 1) := ⟨_, rfl⟩
            rw [← hnew] at hH Rx ⊢
            clear hnew
            refine wpAnyH_ready (rs := [17]) (by kernel_rfl) (by simp) ?_
            refine AllReadyH.cons (o := ?ok50) ?hk50 (fun K hK => ?sk50) AllReadyH.nil
            case hk50 => simp only [List.getElem?_toArray]; rfl
            case sk50 =>
              go_simp
              have hb := bel1 x49 (.cells #[.slice (some ⟨bx, 0, none⟩) 3 3] 28)
              have Yx : Hid (RdL (x49.alloc (.cells #[.slice (some ⟨bx, 0, none⟩) 3 3] 28)) (some ⟨x49.heap.size, 0, none⟩) 1 [abc7]) := RdL.one x49 _ 3 3 abc7 28 Rx.out
              refine hK.out _ _ (hH.trans hb) (fun hH' => ?_)
              clear hK K hH
              have hH := hH'
              clear hH'
              try simp only [List.setIfInBounds_toArray, List.set]
              obtain ⟨x52, hnew⟩ : ∃ v, v = (x49.alloc (.cells #[.slice (some ⟨bx, 0, none⟩) 3 3] 28)) := ⟨_, rfl⟩
              obtain ⟨by', hbn⟩ : ∃ v, v = x49.heap.size := ⟨_, rfl⟩
              rw [← hnew] at Yx hH ⊢
              rw [← hbn] at Yx ⊢
              clear hb hnew hbn Rx
              exact hrest x52 bx by' N ⟨hH, Yx, HN⟩
      case sk41 =>
        go_simp
        have hb := bel1 V9 (.cells #[.int .u8 97, .int .u8 98, .int .u8 99] 5)
        have gx : W3.heap.size ≤ V9.heap.size := hH.size
        have Lx : Hid (Lt (V9.alloc (.cells #[.int .u8 97, .int .u8 98, .int .u8 99] 5)) V9.heap.size abc7) := lt_new V9 abc7
        refine hK.out _ _ (hH.trans hb) (fun hH' => ?_)
        clear hK K hH
        have hH := hH'
        clear hH'
        try simp only [List.setIfInBounds_toArray, List.set]
        obtain ⟨x54, hnew⟩ : ∃ v, v = (V9.alloc (.cells #[.int .u8 97, .int .u8 98, .int .u8 99] 5)) := ⟨_, rfl⟩
        obtain ⟨bx, hbn⟩ : ∃ v, v = V9.heap.size := ⟨_, rfl⟩
        rw [← hnew] at Lx hH ⊢
        rw [← hbn] at Lx gx ⊢
        clear hb hnew hbn
        refine wpAnyH_ready (rs := [14, 16]) (by kernel_rfl) (by simp) ?_
        refine AllReadyH.cons (o := ?ok55) ?hk55 (fun K hK => ?sk55) (AllReadyH.cons (o := ?ok56) ?hk56 (fun K hK => ?sk56) AllReadyH.nil)
        case hk55 => simp only [List.getElem?_toArray]; rfl
        case hk56 => simp only [List.getElem?_toArray]; rfl
        case sk55 =>
          go_simp
          refine (sumh_c b0 abc7 _ (HX.out.later hH) (HG.out.later hH) (by decide)).mono ?_
          rintro e V58 ⟨N, rfl, HN, hb⟩
          refine hK.out _ _ (hH.trans hb) (fun hH' => ?_)
          clear hK K hH
          have hH := hH'
          clear hH'
          try simp only [List.setIfInBounds_toArray, List.set]
          replace Lx : Hid (Lt V58 bx abc7) := Lx.out.later hb
          clear hb
          refine wpAnyH_ready (rs := [16]) (by kernel_rfl) (by simp) ?_
          refine AllReadyH.cons (o := ?ok59) ?hk59 (fun K hK => ?sk59) AllReadyH.nil
          case hk59 => simp only [List.getElem?_toArray]; rfl
          case sk59 =>
            have hcv := conv_mark V58 bx abc7 3 3 Lx.out
            rw [show abc7.length = 3 from rfl] at hcv
            go_simp
            clear hcv
            have Rx : Hid (Rd (V58.freeze ⟨bx, 3, none⟩ 1) (some ⟨bx, 0, none⟩) 3 3 abc7) := (Lx.out.rd (byt5 _ (by decide)) 3 (by decide)).frz _ _
            refine hK.out _ _ (ext_frz hH bx 3 gx) (fun hH' => ?_)
            clear hK K hH
            have hH := hH'
            clear hH'
            try simp only [List.setIfInBounds_toArray, List.set]
            clear Lx
            obtain ⟨x61, hnew⟩ : ∃ v, v = (V58.freeze ⟨bx, 3, none⟩ 1) := ⟨_, rfl⟩
            rw [← hnew] at hH Rx ⊢
            clear hnew
            refine wpAnyH_ready (rs := [17]) (by kernel_rfl) (by simp) ?_
            refine AllReadyH.cons (o := ?ok62) ?hk62 (fun K hK => ?sk62) AllReadyH.nil
            case hk62 => simp only [List.getElem?_toArray]; rfl
            case sk62 =>
              go_simp
              have hb := bel1 x61 (.cells #[.slice (some ⟨bx, 0, none⟩) 3 3] 28)
              have Yx : Hid (RdL (x61.alloc (.cells #[.slice (some ⟨bx, 0, none⟩) 3 3] 28)) (some ⟨x61.heap.size, 0, none⟩) 1 [abc7]) := RdL.one x61 _ 3 3 abc7 28 Rx.out
              refine hK.out _ _ (hH.trans hb) (fun hH' => ?_)
              clear hK K hH
              have hH := hH'
              clear hH'
              try simp only [List.setIfInBounds_toArray, List.set]
              obtain ⟨x64, hnew⟩ : ∃ v, v = (x61.alloc (.cells #[.slice (some ⟨bx, 0, none⟩) 3 3] 28)) := ⟨_, rfl⟩
              obtain ⟨by', hbn⟩ : ∃ v, v = x61.heap.size := ⟨_, rfl⟩
              rw [← hnew] at Yx hH ⊢
              rw [← hbn] at Yx ⊢
              clear hb hnew hbn Rx
              exact hrest x64 bx by' N ⟨hH, Yx, HN⟩
        case sk56 =>
          have hcv := conv_mark x54 bx abc7 3 3 Lx.out
          rw [show abc7.length = 3 from rfl] at hcv
          go_simp
          clear hcv
          have Rx : Hid (Rd (x54.freeze ⟨bx, 3, none⟩ 1) (some ⟨bx, 0, none⟩) 3 3 abc7) := (Lx.out.rd (byt5 _ (by decide)) 3 (by decide)).frz _ _
          refine hK.out _ _ (ext_frz hH bx 3 gx) (fun hH' => ?_)
          clear hK K hH
          have hH := hH'
          clear hH'
          try simp only [List.setIfInBounds_toArray, List.set]
          clear Lx
          obtain ⟨x66, hnew⟩ : ∃ v, v = (x54.freeze ⟨bx, 3, none⟩ 1) := ⟨_, rfl⟩
          rw [← hnew] at hH Rx ⊢
          clear hnew
          refine wpAnyH_ready (rs := [14, 17]) (by kernel_rfl) (by simp) ?_
          refine AllReadyH.cons (o := ?ok67) ?hk67 (fun K hK => ?sk67) (AllReadyH.cons (o := ?ok68) ?hk68 (fun K hK => ?sk68) AllReadyH.nil)
          case hk67 => simp only [List.getElem?_toArray]; rfl
          case hk68 => simp only [List.getElem?_toArray]; rfl
          case sk67 =>
            go_simp
            refine (sumh_c b0 abc7 _ (HX.out.later hH) (HG.out.later hH) (by decide)).mono ?_
            rintro e V70 ⟨N, rfl, HN, hb⟩
            refine hK.out _ _ (hH.trans hb) (fun hH' => ?_)
            clear hK K hH
            have hH := hH'
            clear hH'
            try simp only [List.setIfInBounds_toArray, List.set]
            replace Rx : Hid (Rd V70 (some ⟨bx, 0, none⟩) 3 3 abc7) := Rx.out.below hb
            clear hb
            refine wpAnyH_ready (rs := [17]) (by kernel_rfl) (by simp) ?_
            refine AllReadyH.cons (o := ?ok71) ?hk71 (fun K hK => ?sk71) AllReadyH.nil
            case hk71 => simp only [List.getElem?_toArray]; rfl
            case sk71 =>
              go_simp
              have hb := bel1 V70 (.cells #[.slice (some ⟨bx, 0, none⟩) 3 3] 28)
              have Yx : Hid (RdL (V70.alloc (.cells #[.slice (some ⟨bx, 0, none⟩) 3 3] 28)) (some ⟨V70.heap.size, 0, none⟩) 1 [abc7]) := RdL.one V70 _ 3 3 abc7 28 Rx.out
              refine hK.out _ _ (hH.trans hb) (fun hH' => ?_)
              clear hK K hH
              have hH := hH'
              clear hH'
              try simp only [List.setIfInBounds_toArray, List.set]
              obtain ⟨x73, hnew⟩ : ∃ v, v = (V70.alloc (.cells #[.slice (some ⟨bx, 0, none⟩) 3 3] 28)) := ⟨_, rfl⟩
              obtain ⟨by', hbn⟩ : ∃ v, v = V70.heap.size := ⟨_, rfl⟩
              rw [← hnew] at Yx hH ⊢
              rw [← hbn] at Yx ⊢
              clear hb hnew hbn Rx
              exact hrest x73 bx by' N ⟨hH, Yx, HN⟩
          case sk68 =>
            go_simp
            have hb := bel1 x66 (.cells #[.slice (some ⟨bx, 0, none⟩) 3 3] 28)
            have Yx : Hid (RdL (x66.alloc (.cells #[.slice (some ⟨bx, 0, none⟩) 3 3] 28)) (some ⟨x66.heap.size, 0, none⟩) 1 [abc7]) := RdL.one x66 _ 3 3 abc7 28 Rx.out
            refine hK.out _ _ (hH.trans hb) (fun hH' => ?_)
            clear hK K hH
            have hH := hH'
            clear hH'
            try simp only [List.setIfInBounds_toArray, List.set]
            obtain ⟨x75, hnew⟩ : ∃ v, v = (x66.alloc (.cells #[.slice (some ⟨bx, 0, none⟩) 3 3] 28)) := ⟨_, rfl⟩
            obtain ⟨by', hbn⟩ : ∃ v, v = x66.heap.size := ⟨_, rfl⟩
            rw [← hnew] at Yx hH ⊢
            rw [← hbn] at Yx ⊢
            clear hb hnew hbn Rx
            refine wpAnyH_ready (rs := [14]) (by kernel_rfl) (by simp) ?_
            refine AllReadyH.cons (o := ?ok76) ?hk76 (fun K hK => ?sk76) AllReadyH.nil
            case hk76 => simp only [List.getElem?_toArray]; rfl
            case sk76 =>
              go_simp
              refine (sumh_c b0 abc7 _ (HX.out.later hH) (HG.out.later hH) (by decide)).mono ?_
              rintro e V78 ⟨N, rfl, HN, hb⟩
              refine hK.out _ _ (hH.trans hb) (fun hH' => ?_)
              clear hK K hH
              have hH := hH'
              clear hH'
              try simp only [List.setIfInBounds_toArray, List.set]
              replace Yx : Hid (RdL V78 (some ⟨by', 0, none⟩) 1 [abc7]) := Yx.out.below hb
              clear hb
              exact hrest V78 bx by' N ⟨hH, Yx, HN⟩
    case hr =>
      rintro Y2 bx2 by' N ⟨hE, Yx, HN⟩
      have hH := hE.out
      clear hE
      refine wpAnyH_ready (rs := [18]) (by kernel_rfl) (by simp) ?_
      refine AllReadyH.cons (o := ?o18af2) ?h18af2 (fun K hK => ?_) AllReadyH.nil
      case h18af2 => simp only [List.getElem?_toArray]; rfl
      go_simp
      refine (sum_c (some ⟨by', 0, none⟩) 1 1 [abc7] _ Yx.out (HG.out.later hH) (by decide) (by decide)).mono ?_
      rintro e V10 ⟨S2, rfl, HS2, hb⟩
      have hNn : Bn 32 N := by rw [HN.out]; exact sum7_bn _
      have heq : ∀ u, Sem.run Tryd.prog (binOp .eql 25 (.agg (List.map (Value.int .u8) N).toArray) (.agg (List.map (Value.int .u8) S2).toArray)) u = .ok (.bool true) u := fun u => eql32 N S2 hNn (by rw [HN.out, HS2.out]; rfl) u
      refine hK.out _ _ (hH.trans hb) (fun hH' => ?_)
      clear hK K hH
      have hH := hH'
      clear hH'
      try simp only [List.setIfInBounds_toArray, List.set]
      refine wpAnyH_take (i := 19) (oi := ?o19af2) (v := ?v19af2) ?h19af2 (by kernel_rfl) ?f19af2 ?r19af2 (fun _ _ _ h => h) (Or.inl ⟨?w19af2, ?y19af2⟩) (by assumption) ?t19af2
      case h19af2 => simp only [List.getElem?_toArray]; rfl
      case f19af2 => kernel_rfl
      case r19af2 => kernel_rfl
      case w19af2 => rfl
      case y19af2 => (intro u hu; (go_simp) <;> with_reducible rfl)
      try simp only [Act.put, List.setIfInBounds_toArray, List.set_cons_zero, List.set_cons_succ]
      clear heq hNn HS2 hb HN Yx
      refine wpAnyH_take (i := 20) (oi := ?o20af2) (v := ?v20af2) ?h20af2 (by kernel_rfl) ?f20af2 ?r20af2 (fun _ _ _ h => h) (Or.inl ⟨?w20af2, ?y20af2⟩) (by assumption) ?t20af2
      case h20af2 => simp only [List.getElem?_toArray]; rfl
      case f20af2 => kernel_rfl
      case r20af2 => kernel_rfl
      case w20af2 => rfl
      case y20af2 => (intro u hu; (go_simp) <;> with_reducible rfl)
      try simp only [Act.put, List.setIfInBounds_toArray, List.set_cons_zero, List.set_cons_succ]
      refine wpAnyH_take (i := 21) (oi := ?o21af2) (v := ?v21af2) ?h21af2 (by kernel_rfl) ?f21af2 ?r21af2 (fun _ _ _ h => h) (Or.inl ⟨?w21af2, ?y21af2⟩) (by assumption) ?t21af2
      case h21af2 => simp only [List.getElem?_toArray]; rfl
      case f21af2 => kernel_rfl
      case r21af2 => kernel_rfl
      case w21af2 => rfl
      case y21af2 => (intro u hu; (go_simp) <;> with_reducible rfl)
      try simp only [Act.put, List.setIfInBounds_toArray, List.set_cons_zero, List.set_cons_succ]
      refine wpAnyH_done (by kernel_rfl) ?_ _
      refine NoPanic.normal ?_
      replace HB : Hid (Below w.heap.size w V10) := HB.out.trans (Below.mono hH HB.out.size)
      clear hH
      go_wp2
      go_ret
      exact ⟨rfl, HB.out⟩
end Go.Proofs.YtgblbhocpafgcaaDoor
