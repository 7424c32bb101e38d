/-
  The walk of FieldSquares: true for whatever bytes and numbers. No statement of the seat is proved here.
-/
import Derived.Test.YtgnfbnjhmiggbaaFLawM
namespace Go.Proofs.Ytgnfbnjhmiggbaa
open Go.RowKit

theorem sq_law (x y : Int) : (x + y) % 57896044618658097711785492504343953926634992332820282019728792003956564819949 * ((x - y) % 57896044618658097711785492504343953926634992332820282019728792003956564819949) % 57896044618658097711785492504343953926634992332820282019728792003956564819949 = (x * x % 57896044618658097711785492504343953926634992332820282019728792003956564819949 - y * y % 57896044618658097711785492504343953926634992332820282019728792003956564819949) % 57896044618658097711785492504343953926634992332820282019728792003956564819949 := by
  rw [em_mul_l, em_mul_r, em_sub_l, em_sub_r]
  congr 1
  rw [Int.add_mul, Int.mul_sub, Int.mul_sub, Int.mul_comm y x]
  omega
theorem neg_neg_law (x : Int) (hx : El x) : (0 - (0 - x) % 57896044618658097711785492504343953926634992332820282019728792003956564819949) % 57896044618658097711785492504343953926634992332820282019728792003956564819949 = x := by
  rw [em_sub_r]
  have e : 0 - (0 - x) = x := by omega
  rw [e, hx.em]

set_option maxHeartbeats 8000000 in
theorem fieldSquares_walk (a b : List Int) (n m : Int) (ha : By a) (hb : By b) (hn : -9223372036854775808 ≤ n ∧ n ≤ 9223372036854775807) (hm : -9223372036854775808 ≤ m ∧ m ≤ 9223372036854775807) (w : World) :
    Calls Try.prog 7 #[(.agg (List.map (Value.int .u8) a).toArray), (.agg (List.map (Value.int .u8) b).toArray), .int .i64 n, .int .i64 m] w fun e w' => e = .returned (.bool true) ∧ Below w.heap.size w w' := by
  go_enter Try.func7, Try.ntmps7
  go_upto_region 1 with fail
  have HB : Hid (Below w.heap.size w ((w.alloc (.cells (List.map (Value.int .u8) a).toArray 22)).alloc (.cells (List.map (Value.int .u8) b).toArray 22))) := bel2 _ _ _
  have A4 : Hid (Arr ((w.alloc (.cells (List.map (Value.int .u8) a).toArray 22)).alloc (.cells (List.map (Value.int .u8) b).toArray 22)) (w.heap.size) (List.map (Value.int .u8) a)) := by
    have := (arr_box w a ha).later (bel1 _ (.cells (List.map (Value.int .u8) b).toArray 22))
    simpa [Hid] using this
  have A5 : Hid (Arr ((w.alloc (.cells (List.map (Value.int .u8) a).toArray 22)).alloc (.cells (List.map (Value.int .u8) b).toArray 22)) (w.heap.size + 1) (List.map (Value.int .u8) b)) := by
    have := arr_box (w.alloc (.cells (List.map (Value.int .u8) a).toArray 22)) b hb
    simpa [Hid] using this
  generalize (w.alloc (.cells (List.map (Value.int .u8) a).toArray 22)).alloc (.cells (List.map (Value.int .u8) b).toArray 22) = W0 at *
  generalize w.heap.size + 1 = q1 at *
  go_wp2_with (first | (refine wpList_load_mid rfl 22 (.tmp 4) rfl (w.heap.size) 0 rfl (List.map (Value.int .u8) a) _ A4.out.rng Try.underlying22 rfl (by_cells ha).2.2 ?_))
  refine (edge_any a ha n hn _).mono ?_
  rintro e u1_0 ⟨l15, rfl, hl15, hb1_0⟩
  have hc1_1 : Hid (Below W0.heap.size W0 u1_0) := hb1_0
  clear hb1_0
  go_wp2_with fail
  refine (from_e l15 hl15 _).mono ?_
  rintro e u1_1 ⟨z16, rfl, hz16, Hz16, hb1_1⟩
  have hc1_2 : Hid (Below W0.heap.size W0 u1_1) := hc1_1.out.trans ((hb1_1).mono hc1_1.out.size)
  clear hb1_1 hc1_1
  go_upto_region 2 with fail
  have hX : Hid (Below W0.heap.size W0 (u1_1.alloc (.cells #[.int .u64 (e0 z16), .int .u64 (e1 z16), .int .u64 (e2 z16), .int .u64 (e3 z16)] 28))) := hc1_2.out.trans ((bel1 u1_1 _).mono hc1_2.out.size)
  have V9 : Hid (Var (u1_1.alloc (.cells #[.int .u64 (e0 z16), .int .u64 (e1 z16), .int .u64 (e2 z16), .int .u64 (e3 z16)] 28)) (u1_1.heap.size) z16) := var_new u1_1 z16 _
  have hge9 : w.heap.size ≤ u1_1.heap.size := Nat.le_trans HB.out.size hc1_2.out.size
  generalize u1_1.alloc (.cells #[.int .u64 (e0 z16), .int .u64 (e1 z16), .int .u64 (e2 z16), .int .u64 (e3 z16)] 28) = W9 at *
  generalize u1_1.heap.size = b9 at *
  replace A4 : Hid (Arr W9 (w.heap.size) (List.map (Value.int .u8) a)) := A4.out.later hX.out
  replace A5 : Hid (Arr W9 q1 (List.map (Value.int .u8) b)) := A5.out.later hX.out
  replace HB : Hid (Below w.heap.size w W9) := HB.out.trans (Below.mono hX.out HB.out.size)
  clear hX hc1_2
  go_wp2_with (first | (refine wpList_load_mid rfl 22 (.tmp 5) rfl q1 0 rfl (List.map (Value.int .u8) b) _ A5.out.rng Try.underlying22 rfl (by_cells hb).2.2 ?_))
  refine (edge_any b hb m hm _).mono ?_
  rintro e u2_0 ⟨l19, rfl, hl19, hb2_0⟩
  have hc2_1 : Hid (Below W9.heap.size W9 u2_0) := hb2_0
  clear hb2_0
  try clear V9c0 V9c1 V9c2 V9c3
  go_wp2_with fail
  refine (from_e l19 hl19 _).mono ?_
  rintro e u2_1 ⟨z20, rfl, hz20, Hz20, hb2_1⟩
  have hc2_2 : Hid (Below W9.heap.size W9 u2_1) := hc2_1.out.trans ((hb2_1).mono hc2_1.out.size)
  clear hb2_1 hc2_1
  try clear V9c0 V9c1 V9c2 V9c3
  go_upto_region 3 with fail
  have hX : Hid (Below W9.heap.size W9 (u2_1.alloc (.cells #[.int .u64 (e0 z20), .int .u64 (e1 z20), .int .u64 (e2 z20), .int .u64 (e3 z20)] 28))) := hc2_2.out.trans ((bel1 u2_1 _).mono hc2_2.out.size)
  have V10 : Hid (Var (u2_1.alloc (.cells #[.int .u64 (e0 z20), .int .u64 (e1 z20), .int .u64 (e2 z20), .int .u64 (e3 z20)] 28)) (u2_1.heap.size) z20) := var_new u2_1 z20 _
  have hge10 : w.heap.size ≤ u2_1.heap.size := Nat.le_trans HB.out.size hc2_2.out.size
  have lt10_V9 : b9 < u2_1.heap.size := (V9.out.later hc2_2.out).lt
  generalize u2_1.alloc (.cells #[.int .u64 (e0 z20), .int .u64 (e1 z20), .int .u64 (e2 z20), .int .u64 (e3 z20)] 28) = W10 at *
  generalize u2_1.heap.size = b10 at *
  replace V9 : Hid (Var W10 b9 z16) := V9.out.later hX.out
  replace A4 : Hid (Arr W10 (w.heap.size) (List.map (Value.int .u8) a)) := A4.out.later hX.out
  replace A5 : Hid (Arr W10 q1 (List.map (Value.int .u8) b)) := A5.out.later hX.out
  replace HB : Hid (Below w.heap.size w W10) := HB.out.trans (Below.mono hX.out HB.out.size)
  clear hX hc2_2
  go_cut [11] from 13 (fun tv11 wc => ∃ (b11 : Nat) (v11 : Int), tv11 = .pointer (some ⟨b11, 0, none⟩) ∧ El v11 ∧ Hid (v11 = (z16 + z20) % 57896044618658097711785492504343953926634992332820282019728792003956564819949 * ((z16 - z20) % 57896044618658097711785492504343953926634992332820282019728792003956564819949) % 57896044618658097711785492504343953926634992332820282019728792003956564819949) ∧ Hid (Var wc b11 v11) ∧ w.heap.size ≤ b11 ∧ Hid (Below W10.heap.size W10 wc))
  case first =>
    obtain ⟨V9c0, V9c1, V9c2, V9c3⟩ := V9.out
    have V9u0 : ∀ u, Ext W10 u → u.cell? ⟨b9, 0, none⟩ = some (.int .u64 (e0 z16)) := fun u hu => hu.cell V9c0
    have V9u1 : ∀ u, Ext W10 u → u.cell? ⟨b9, 1, none⟩ = some (.int .u64 (e1 z16)) := fun u hu => hu.cell V9c1
    have V9u2 : ∀ u, Ext W10 u → u.cell? ⟨b9, 2, none⟩ = some (.int .u64 (e2 z16)) := fun u hu => hu.cell V9c2
    have V9u3 : ∀ u, Ext W10 u → u.cell? ⟨b9, 3, none⟩ = some (.int .u64 (e3 z16)) := fun u hu => hu.cell V9c3
    clear V9c0 V9c1 V9c2 V9c3
    obtain ⟨V10c0, V10c1, V10c2, V10c3⟩ := V10.out
    have V10u0 : ∀ u, Ext W10 u → u.cell? ⟨b10, 0, none⟩ = some (.int .u64 (e0 z20)) := fun u hu => hu.cell V10c0
    have V10u1 : ∀ u, Ext W10 u → u.cell? ⟨b10, 1, none⟩ = some (.int .u64 (e1 z20)) := fun u hu => hu.cell V10c1
    have V10u2 : ∀ u, Ext W10 u → u.cell? ⟨b10, 2, none⟩ = some (.int .u64 (e2 z20)) := fun u hu => hu.cell V10c2
    have V10u3 : ∀ u, Ext W10 u → u.cell? ⟨b10, 3, none⟩ = some (.int .u64 (e3 z20)) := fun u hu => hu.cell V10c3
    clear V10c0 V10c1 V10c2 V10c3
    refine wp_region_noPanic ?_
    refine wp_region_held_drew (S := Ext W10) (by kernel_rfl) (Ext.refl _).drew (fun hH => ?_)
    change wpAnyH _ _ _ _ _ _ #[false, false, false, false, false, false, false, false, false] _ _
    have hWs : w.heap.size ≤ W10.heap.size := HB.out.size
    generalize W10.drew = y0 at *
    refine wpAnyH_take (i := 0) (oi := ?o03w1) (v := ?v03w1) ?h03w1 (by kernel_rfl) ?f03w1 ?r03w1 (fun _ _ _ h => h) (Or.inl ⟨?w03w1, ?y03w1⟩) (by assumption) ?t03w1
    case h03w1 => simp only [List.getElem?_toArray]; rfl
    case f03w1 => kernel_rfl
    case r03w1 => kernel_rfl
    case w03w1 => rfl
    case y03w1 => (intro u hu; (go_simp) <;> with_reducible rfl)
    try simp only [Act.put, List.setIfInBounds_toArray, List.set_cons_zero, List.set_cons_succ]
    refine wpAnyH_take (i := 1) (oi := ?o13w2) (v := ?v13w2) ?h13w2 (by kernel_rfl) ?f13w2 ?r13w2 (fun _ _ _ h => h) (Or.inl ⟨?w13w2, ?y13w2⟩) (by assumption) ?t13w2
    case h13w2 => simp only [List.getElem?_toArray]; rfl
    case f13w2 => kernel_rfl
    case r13w2 => kernel_rfl
    case w13w2 => rfl
    case y13w2 => (intro u hu; (go_simp) <;> with_reducible rfl)
    try simp only [Act.put, List.setIfInBounds_toArray, List.set_cons_zero, List.set_cons_succ]
    refine wpAnyH_take (i := 3) (oi := ?o33w3) (v := ?v33w3) ?h33w3 (by kernel_rfl) ?f33w3 ?r33w3 (fun _ _ _ h => h) (Or.inl ⟨?w33w3, ?y33w3⟩) (by assumption) ?t33w3
    case h33w3 => simp only [List.getElem?_toArray]; rfl
    case f33w3 => kernel_rfl
    case r33w3 => kernel_rfl
    case w33w3 => rfl
    case y33w3 => (intro u hu; (go_simp) <;> with_reducible rfl)
    try simp only [Act.put, List.setIfInBounds_toArray, List.set_cons_zero, List.set_cons_succ]
    refine wpAnyH_take (i := 4) (oi := ?o43w4) (v := ?v43w4) ?h43w4 (by kernel_rfl) ?f43w4 ?r43w4 (fun _ _ _ h => h) (Or.inl ⟨?w43w4, ?y43w4⟩) (by assumption) ?t43w4
    case h43w4 => simp only [List.getElem?_toArray]; rfl
    case f43w4 => kernel_rfl
    case r43w4 => kernel_rfl
    case w43w4 => rfl
    case y43w4 => (intro u hu; (go_simp) <;> with_reducible rfl)
    try simp only [Act.put, List.setIfInBounds_toArray, List.set_cons_zero, List.set_cons_succ]
    refine wpAnyH_ready (rs := [2, 7]) (by kernel_rfl) (by simp) ?_
    refine AllReadyH.cons (o := ?o23w5) ?h23w5 (fun K hK => ?c23w5) (AllReadyH.cons (o := ?o73w5) ?h73w5 (fun K hK => ?c73w5) AllReadyH.nil)
    case h23w5 => simp only [List.getElem?_toArray]; rfl
    case h73w5 => simp only [List.getElem?_toArray]; rfl
    case c23w5 =>
      go_simp
      refine (add_e z16 z20 hz16 hz20 _).mono ?_
      rintro e y3w6 ⟨z23, rfl, hz23, Hz23, hb3w6⟩
      refine hK.out _ _ (hH.trans hb3w6) (fun hH' => ?_)
      clear hK K hH
      have hH := hH'
      clear hH'
      try simp only [List.setIfInBounds_toArray, List.set]
      clear hb3w6
      refine wpAnyH_ready (rs := [5, 7]) (by kernel_rfl) (by simp) ?_
      refine AllReadyH.cons (o := ?o53w7) ?h53w7 (fun K hK => ?c53w7) (AllReadyH.cons (o := ?o73w7) ?h73w7 (fun K hK => ?c73w7) AllReadyH.nil)
      case h53w7 => simp only [List.getElem?_toArray]; rfl
      case h73w7 => simp only [List.getElem?_toArray]; rfl
      case c53w7 =>
        go_simp
        refine (sub_e z16 z20 hz16 hz20 _).mono ?_
        rintro e y3w8 ⟨z26, rfl, hz26, Hz26, hb3w8⟩
        refine hK.out _ _ (hH.trans hb3w8) (fun hH' => ?_)
        clear hK K hH
        have hH := hH'
        clear hH'
        try simp only [List.setIfInBounds_toArray, List.set]
        clear hb3w8
        refine wpAnyH_ready (rs := [6, 7]) (by kernel_rfl) (by simp) ?_
        refine AllReadyH.cons (o := ?o63w9) ?h63w9 (fun K hK => ?c63w9) (AllReadyH.cons (o := ?o73w9) ?h73w9 (fun K hK => ?c73w9) AllReadyH.nil)
        case h63w9 => simp only [List.getElem?_toArray]; rfl
        case h73w9 => simp only [List.getElem?_toArray]; rfl
        case c63w9 =>
          go_simp
          refine (mul_e z23 z26 hz23 hz26 _).mono ?_
          rintro e y3w10 ⟨z27, rfl, hz27, Hz27, hb3w10⟩
          refine hK.out _ _ (hH.trans hb3w10) (fun hH' => ?_)
          clear hK K hH
          have hH := hH'
          clear hH'
          try simp only [List.setIfInBounds_toArray, List.set]
          clear hb3w10
          refine wpAnyH_ready (rs := [7]) (by kernel_rfl) (by simp) ?_
          refine AllReadyH.cons (o := ?o73w11) ?h73w11 (fun K hK => ?_) AllReadyH.nil
          case h73w11 => simp only [List.getElem?_toArray]; rfl
          go_simp
          have hL11 : W10.heap.size ≤ y3w10.heap.size := hH.size
          refine hK.out _ _ (hH.trans (bel1 _ _)) (fun hH' => ?_)
          clear hK K hH
          have hH := hH'
          clear hH'
          try simp only [List.setIfInBounds_toArray, List.set]
          have O11w : Hid (Own (y3w10.alloc (.cells #[.int .u64 0, .int .u64 0, .int .u64 0, .int .u64 0] 28)) y3w10.heap.size) := own_new y3w10 _ _ _ _ _
          generalize y3w10.alloc (.cells #[.int .u64 0, .int .u64 0, .int .u64 0, .int .u64 0] 28) = x3w11 at *
          generalize y3w10.heap.size = b11w at *
          have hg11 : w.heap.size ≤ b11w := by omega
          obtain ⟨⟨_, nc0⟩, ⟨_, nc1⟩, ⟨_, nc2⟩, ⟨_, nc3⟩, nf0, nf1, nf2, nf3⟩ := O11w.out
          refine wpAnyH_ready (rs := [8]) (by kernel_rfl) (by simp) ?_
          refine AllReadyH.cons (o := ?o83w12) ?h83w12 (fun K hK => ?_) AllReadyH.nil
          case h83w12 => simp only [List.getElem?_toArray]; rfl
          go_simp
          refine hK.out _ _ (hH.set4 _ (by omega) _ _ _ _) (fun hH' => ?_)
          clear hK K hH
          have hH := hH'
          clear hH'
          try simp only [List.setIfInBounds_toArray, List.set]
          have V11w : Hid (Var ((((x3w11.setCell ⟨b11w, 0, none⟩ (.int .u64 (e0 z27))).setCell ⟨b11w, 1, none⟩ (.int .u64 (e1 z27))).setCell ⟨b11w, 2, none⟩ (.int .u64 (e2 z27))).setCell ⟨b11w, 3, none⟩ (.int .u64 (e3 z27))) b11w z27) := var_set x3w11 b11w z27 O11w.out
          clear O11w nc0 nc1 nc2 nc3 nf0 nf1 nf2 nf3
          generalize (((x3w11.setCell ⟨b11w, 0, none⟩ (.int .u64 (e0 z27))).setCell ⟨b11w, 1, none⟩ (.int .u64 (e1 z27))).setCell ⟨b11w, 2, none⟩ (.int .u64 (e2 z27))).setCell ⟨b11w, 3, none⟩ (.int .u64 (e3 z27)) = x3w12 at *
          refine wpAnyH_done (by kernel_rfl) ?_ _
          refine NoPanic.normal ?_
          go_wp2_with fail
          go_meet
          case rel => exact ⟨_, _, rfl, hz27, (by unfold Hid; rw [Hz27.out, Hz23.out, Hz26.out]), V11w, hg11, hH⟩
        case c73w9 =>
          go_simp
          have hL11 : W10.heap.size ≤ y3w8.heap.size := hH.size
          refine hK.out _ _ (hH.trans (bel1 _ _)) (fun hH' => ?_)
          clear hK K hH
          have hH := hH'
          clear hH'
          try simp only [List.setIfInBounds_toArray, List.set]
          have O11w : Hid (Own (y3w8.alloc (.cells #[.int .u64 0, .int .u64 0, .int .u64 0, .int .u64 0] 28)) y3w8.heap.size) := own_new y3w8 _ _ _ _ _
          generalize y3w8.alloc (.cells #[.int .u64 0, .int .u64 0, .int .u64 0, .int .u64 0] 28) = x3w13 at *
          generalize y3w8.heap.size = b11w at *
          have hg11 : w.heap.size ≤ b11w := by omega
          refine wpAnyH_ready (rs := [6]) (by kernel_rfl) (by simp) ?_
          refine AllReadyH.cons (o := ?o63w14) ?h63w14 (fun K hK => ?_) AllReadyH.nil
          case h63w14 => simp only [List.getElem?_toArray]; rfl
          go_simp
          refine (mul_e z23 z26 hz23 hz26 _).mono ?_
          rintro e y3w14 ⟨z27, rfl, hz27, Hz27, hb3w14⟩
          refine hK.out _ _ (hH.trans hb3w14) (fun hH' => ?_)
          clear hK K hH
          have hH := hH'
          clear hH'
          try simp only [List.setIfInBounds_toArray, List.set]
          replace O11w : Hid (Own y3w14 b11w) := O11w.out.later hb3w14
          clear hb3w14
          obtain ⟨⟨_, nc0⟩, ⟨_, nc1⟩, ⟨_, nc2⟩, ⟨_, nc3⟩, nf0, nf1, nf2, nf3⟩ := O11w.out
          refine wpAnyH_ready (rs := [8]) (by kernel_rfl) (by simp) ?_
          refine AllReadyH.cons (o := ?o83w15) ?h83w15 (fun K hK => ?_) AllReadyH.nil
          case h83w15 => simp only [List.getElem?_toArray]; rfl
          go_simp
          refine hK.out _ _ (hH.set4 _ (by omega) _ _ _ _) (fun hH' => ?_)
          clear hK K hH
          have hH := hH'
          clear hH'
          try simp only [List.setIfInBounds_toArray, List.set]
          have V11w : Hid (Var ((((y3w14.setCell ⟨b11w, 0, none⟩ (.int .u64 (e0 z27))).setCell ⟨b11w, 1, none⟩ (.int .u64 (e1 z27))).setCell ⟨b11w, 2, none⟩ (.int .u64 (e2 z27))).setCell ⟨b11w, 3, none⟩ (.int .u64 (e3 z27))) b11w z27) := var_set y3w14 b11w z27 O11w.out
          clear O11w nc0 nc1 nc2 nc3 nf0 nf1 nf2 nf3
          generalize (((y3w14.setCell ⟨b11w, 0, none⟩ (.int .u64 (e0 z27))).setCell ⟨b11w, 1, none⟩ (.int .u64 (e1 z27))).setCell ⟨b11w, 2, none⟩ (.int .u64 (e2 z27))).setCell ⟨b11w, 3, none⟩ (.int .u64 (e3 z27)) = x3w15 at *
          refine wpAnyH_done (by kernel_rfl) ?_ _
          refine NoPanic.normal ?_
          go_wp2_with fail
          go_meet
          case rel => exact ⟨_, _, rfl, hz27, (by unfold Hid; rw [Hz27.out, Hz23.out, Hz26.out]), V11w, hg11, hH⟩
      case c73w7 =>
        go_simp
        have hL11 : W10.heap.size ≤ y3w6.heap.size := hH.size
        refine hK.out _ _ (hH.trans (bel1 _ _)) (fun hH' => ?_)
        clear hK K hH
        have hH := hH'
        clear hH'
        try simp only [List.setIfInBounds_toArray, List.set]
        have O11w : Hid (Own (y3w6.alloc (.cells #[.int .u64 0, .int .u64 0, .int .u64 0, .int .u64 0] 28)) y3w6.heap.size) := own_new y3w6 _ _ _ _ _
        generalize y3w6.alloc (.cells #[.int .u64 0, .int .u64 0, .int .u64 0, .int .u64 0] 28) = x3w16 at *
        generalize y3w6.heap.size = b11w at *
        have hg11 : w.heap.size ≤ b11w := by omega
        refine wpAnyH_ready (rs := [5]) (by kernel_rfl) (by simp) ?_
        refine AllReadyH.cons (o := ?o53w17) ?h53w17 (fun K hK => ?_) AllReadyH.nil
        case h53w17 => simp only [List.getElem?_toArray]; rfl
        go_simp
        refine (sub_e z16 z20 hz16 hz20 _).mono ?_
        rintro e y3w17 ⟨z26, rfl, hz26, Hz26, hb3w17⟩
        refine hK.out _ _ (hH.trans hb3w17) (fun hH' => ?_)
        clear hK K hH
        have hH := hH'
        clear hH'
        try simp only [List.setIfInBounds_toArray, List.set]
        replace O11w : Hid (Own y3w17 b11w) := O11w.out.later hb3w17
        clear hb3w17
        refine wpAnyH_ready (rs := [6]) (by kernel_rfl) (by simp) ?_
        refine AllReadyH.cons (o := ?o63w18) ?h63w18 (fun K hK => ?_) AllReadyH.nil
        case h63w18 => simp only [List.getElem?_toArray]; rfl
        go_simp
        refine (mul_e z23 z26 hz23 hz26 _).mono ?_
        rintro e y3w18 ⟨z27, rfl, hz27, Hz27, hb3w18⟩
        refine hK.out _ _ (hH.trans hb3w18) (fun hH' => ?_)
        clear hK K hH
        have hH := hH'
        clear hH'
        try simp only [List.setIfInBounds_toArray, List.set]
        replace O11w : Hid (Own y3w18 b11w) := O11w.out.later hb3w18
        clear hb3w18
        obtain ⟨⟨_, nc0⟩, ⟨_, nc1⟩, ⟨_, nc2⟩, ⟨_, nc3⟩, nf0, nf1, nf2, nf3⟩ := O11w.out
        refine wpAnyH_ready (rs := [8]) (by kernel_rfl) (by simp) ?_
        refine AllReadyH.cons (o := ?o83w19) ?h83w19 (fun K hK => ?_) AllReadyH.nil
        case h83w19 => simp only [List.getElem?_toArray]; rfl
        go_simp
        refine hK.out _ _ (hH.set4 _ (by omega) _ _ _ _) (fun hH' => ?_)
        clear hK K hH
        have hH := hH'
        clear hH'
        try simp only [List.setIfInBounds_toArray, List.set]
        have V11w : Hid (Var ((((y3w18.setCell ⟨b11w, 0, none⟩ (.int .u64 (e0 z27))).setCell ⟨b11w, 1, none⟩ (.int .u64 (e1 z27))).setCell ⟨b11w, 2, none⟩ (.int .u64 (e2 z27))).setCell ⟨b11w, 3, none⟩ (.int .u64 (e3 z27))) b11w z27) := var_set y3w18 b11w z27 O11w.out
        clear O11w nc0 nc1 nc2 nc3 nf0 nf1 nf2 nf3
        generalize (((y3w18.setCell ⟨b11w, 0, none⟩ (.int .u64 (e0 z27))).setCell ⟨b11w, 1, none⟩ (.int .u64 (e1 z27))).setCell ⟨b11w, 2, none⟩ (.int .u64 (e2 z27))).setCell ⟨b11w, 3, none⟩ (.int .u64 (e3 z27)) = x3w19 at *
        refine wpAnyH_done (by kernel_rfl) ?_ _
        refine NoPanic.normal ?_
        go_wp2_with fail
        go_meet
        case rel => exact ⟨_, _, rfl, hz27, (by unfold Hid; rw [Hz27.out, Hz23.out, Hz26.out]), V11w, hg11, hH⟩
    case c73w5 =>
      go_simp
      have hL11 : W10.heap.size ≤ y0.heap.size := hH.size
      refine hK.out _ _ (hH.trans (bel1 _ _)) (fun hH' => ?_)
      clear hK K hH
      have hH := hH'
      clear hH'
      try simp only [List.setIfInBounds_toArray, List.set]
      have O11w : Hid (Own (y0.alloc (.cells #[.int .u64 0, .int .u64 0, .int .u64 0, .int .u64 0] 28)) y0.heap.size) := own_new y0 _ _ _ _ _
      generalize y0.alloc (.cells #[.int .u64 0, .int .u64 0, .int .u64 0, .int .u64 0] 28) = x3w20 at *
      generalize y0.heap.size = b11w at *
      have hg11 : w.heap.size ≤ b11w := by omega
      refine wpAnyH_ready (rs := [2]) (by kernel_rfl) (by simp) ?_
      refine AllReadyH.cons (o := ?o23w21) ?h23w21 (fun K hK => ?_) AllReadyH.nil
      case h23w21 => simp only [List.getElem?_toArray]; rfl
      go_simp
      refine (add_e z16 z20 hz16 hz20 _).mono ?_
      rintro e y3w21 ⟨z23, rfl, hz23, Hz23, hb3w21⟩
      refine hK.out _ _ (hH.trans hb3w21) (fun hH' => ?_)
      clear hK K hH
      have hH := hH'
      clear hH'
      try simp only [List.setIfInBounds_toArray, List.set]
      replace O11w : Hid (Own y3w21 b11w) := O11w.out.later hb3w21
      clear hb3w21
      refine wpAnyH_ready (rs := [5]) (by kernel_rfl) (by simp) ?_
      refine AllReadyH.cons (o := ?o53w22) ?h53w22 (fun K hK => ?_) AllReadyH.nil
      case h53w22 => simp only [List.getElem?_toArray]; rfl
      go_simp
      refine (sub_e z16 z20 hz16 hz20 _).mono ?_
      rintro e y3w22 ⟨z26, rfl, hz26, Hz26, hb3w22⟩
      refine hK.out _ _ (hH.trans hb3w22) (fun hH' => ?_)
      clear hK K hH
      have hH := hH'
      clear hH'
      try simp only [List.setIfInBounds_toArray, List.set]
      replace O11w : Hid (Own y3w22 b11w) := O11w.out.later hb3w22
      clear hb3w22
      refine wpAnyH_ready (rs := [6]) (by kernel_rfl) (by simp) ?_
      refine AllReadyH.cons (o := ?o63w23) ?h63w23 (fun K hK => ?_) AllReadyH.nil
      case h63w23 => simp only [List.getElem?_toArray]; rfl
      go_simp
      refine (mul_e z23 z26 hz23 hz26 _).mono ?_
      rintro e y3w23 ⟨z27, rfl, hz27, Hz27, hb3w23⟩
      refine hK.out _ _ (hH.trans hb3w23) (fun hH' => ?_)
      clear hK K hH
      have hH := hH'
      clear hH'
      try simp only [List.setIfInBounds_toArray, List.set]
      replace O11w : Hid (Own y3w23 b11w) := O11w.out.later hb3w23
      clear hb3w23
      obtain ⟨⟨_, nc0⟩, ⟨_, nc1⟩, ⟨_, nc2⟩, ⟨_, nc3⟩, nf0, nf1, nf2, nf3⟩ := O11w.out
      refine wpAnyH_ready (rs := [8]) (by kernel_rfl) (by simp) ?_
      refine AllReadyH.cons (o := ?o83w24) ?h83w24 (fun K hK => ?_) AllReadyH.nil
      case h83w24 => simp only [List.getElem?_toArray]; rfl
      go_simp
      refine hK.out _ _ (hH.set4 _ (by omega) _ _ _ _) (fun hH' => ?_)
      clear hK K hH
      have hH := hH'
      clear hH'
      try simp only [List.setIfInBounds_toArray, List.set]
      have V11w : Hid (Var ((((y3w23.setCell ⟨b11w, 0, none⟩ (.int .u64 (e0 z27))).setCell ⟨b11w, 1, none⟩ (.int .u64 (e1 z27))).setCell ⟨b11w, 2, none⟩ (.int .u64 (e2 z27))).setCell ⟨b11w, 3, none⟩ (.int .u64 (e3 z27))) b11w z27) := var_set y3w23 b11w z27 O11w.out
      clear O11w nc0 nc1 nc2 nc3 nf0 nf1 nf2 nf3
      generalize (((y3w23.setCell ⟨b11w, 0, none⟩ (.int .u64 (e0 z27))).setCell ⟨b11w, 1, none⟩ (.int .u64 (e1 z27))).setCell ⟨b11w, 2, none⟩ (.int .u64 (e2 z27))).setCell ⟨b11w, 3, none⟩ (.int .u64 (e3 z27)) = x3w24 at *
      refine wpAnyH_done (by kernel_rfl) ?_ _
      refine NoPanic.normal ?_
      go_wp2_with fail
      go_meet
      case rel => exact ⟨_, _, rfl, hz27, (by unfold Hid; rw [Hz27.out, Hz23.out, Hz26.out]), V11w, hg11, hH⟩
  obtain ⟨b11, v11, rfl, hv11, Hv11, V11, hge11, hX⟩ := hcut
  generalize wc = W11 at *
  replace V9 : Hid (Var W11 b9 z16) := V9.out.later hX.out
  replace V10 : Hid (Var W11 b10 z20) := V10.out.later hX.out
  replace A4 : Hid (Arr W11 (w.heap.size) (List.map (Value.int .u8) a)) := A4.out.later hX.out
  replace A5 : Hid (Arr W11 q1 (List.map (Value.int .u8) b)) := A5.out.later hX.out
  replace HB : Hid (Below w.heap.size w W11) := HB.out.trans (Below.mono hX.out HB.out.size)
  clear hX
  go_upto_region 4 with fail
  go_cut [12] from 13 (fun tv12 wc => ∃ (b12 : Nat) (v12 : Int), tv12 = .pointer (some ⟨b12, 0, none⟩) ∧ El v12 ∧ Hid (v12 = (z16 * z16 % 57896044618658097711785492504343953926634992332820282019728792003956564819949 - z20 * z20 % 57896044618658097711785492504343953926634992332820282019728792003956564819949) % 57896044618658097711785492504343953926634992332820282019728792003956564819949) ∧ Hid (Var wc b12 v12) ∧ w.heap.size ≤ b12 ∧ Hid (Below W11.heap.size W11 wc))
  case first =>
    obtain ⟨V9c0, V9c1, V9c2, V9c3⟩ := V9.out
    have V9u0 : ∀ u, Ext W11 u → u.cell? ⟨b9, 0, none⟩ = some (.int .u64 (e0 z16)) := fun u hu => hu.cell V9c0
    have V9u1 : ∀ u, Ext W11 u → u.cell? ⟨b9, 1, none⟩ = some (.int .u64 (e1 z16)) := fun u hu => hu.cell V9c1
    have V9u2 : ∀ u, Ext W11 u → u.cell? ⟨b9, 2, none⟩ = some (.int .u64 (e2 z16)) := fun u hu => hu.cell V9c2
    have V9u3 : ∀ u, Ext W11 u → u.cell? ⟨b9, 3, none⟩ = some (.int .u64 (e3 z16)) := fun u hu => hu.cell V9c3
    clear V9c0 V9c1 V9c2 V9c3
    obtain ⟨V10c0, V10c1, V10c2, V10c3⟩ := V10.out
    have V10u0 : ∀ u, Ext W11 u → u.cell? ⟨b10, 0, none⟩ = some (.int .u64 (e0 z20)) := fun u hu => hu.cell V10c0
    have V10u1 : ∀ u, Ext W11 u → u.cell? ⟨b10, 1, none⟩ = some (.int .u64 (e1 z20)) := fun u hu => hu.cell V10c1
    have V10u2 : ∀ u, Ext W11 u → u.cell? ⟨b10, 2, none⟩ = some (.int .u64 (e2 z20)) := fun u hu => hu.cell V10c2
    have V10u3 : ∀ u, Ext W11 u → u.cell? ⟨b10, 3, none⟩ = some (.int .u64 (e3 z20)) := fun u hu => hu.cell V10c3
    clear V10c0 V10c1 V10c2 V10c3
    refine wp_region_noPanic ?_
    refine wp_region_held_drew (S := Ext W11) (by kernel_rfl) (Ext.refl _).drew (fun hH => ?_)
    change wpAnyH _ _ _ _ _ _ #[false, false, false, false, false, false, false, false, false] _ _
    have hWs : w.heap.size ≤ W11.heap.size := HB.out.size
    generalize W11.drew = y0 at *
    refine wpAnyH_take (i := 0) (oi := ?o04w1) (v := ?v04w1) ?h04w1 (by kernel_rfl) ?f04w1 ?r04w1 (fun _ _ _ h => h) (Or.inl ⟨?w04w1, ?y04w1⟩) (by assumption) ?t04w1
    case h04w1 => simp only [List.getElem?_toArray]; rfl
    case f04w1 => kernel_rfl
    case r04w1 => kernel_rfl
    case w04w1 => rfl
    case y04w1 => (intro u hu; (go_simp) <;> with_reducible rfl)
    try simp only [Act.put, List.setIfInBounds_toArray, List.set_cons_zero, List.set_cons_succ]
    refine wpAnyH_take (i := 1) (oi := ?o14w2) (v := ?v14w2) ?h14w2 (by kernel_rfl) ?f14w2 ?r14w2 (fun _ _ _ h => h) (Or.inl ⟨?w14w2, ?y14w2⟩) (by assumption) ?t14w2
    case h14w2 => simp only [List.getElem?_toArray]; rfl
    case f14w2 => kernel_rfl
    case r14w2 => kernel_rfl
    case w14w2 => rfl
    case y14w2 => (intro u hu; (go_simp) <;> with_reducible rfl)
    try simp only [Act.put, List.setIfInBounds_toArray, List.set_cons_zero, List.set_cons_succ]
    refine wpAnyH_take (i := 3) (oi := ?o34w3) (v := ?v34w3) ?h34w3 (by kernel_rfl) ?f34w3 ?r34w3 (fun _ _ _ h => h) (Or.inl ⟨?w34w3, ?y34w3⟩) (by assumption) ?t34w3
    case h34w3 => simp only [List.getElem?_toArray]; rfl
    case f34w3 => kernel_rfl
    case r34w3 => kernel_rfl
    case w34w3 => rfl
    case y34w3 => (intro u hu; (go_simp) <;> with_reducible rfl)
    try simp only [Act.put, List.setIfInBounds_toArray, List.set_cons_zero, List.set_cons_succ]
    refine wpAnyH_take (i := 4) (oi := ?o44w4) (v := ?v44w4) ?h44w4 (by kernel_rfl) ?f44w4 ?r44w4 (fun _ _ _ h => h) (Or.inl ⟨?w44w4, ?y44w4⟩) (by assumption) ?t44w4
    case h44w4 => simp only [List.getElem?_toArray]; rfl
    case f44w4 => kernel_rfl
    case r44w4 => kernel_rfl
    case w44w4 => rfl
    case y44w4 => (intro u hu; (go_simp) <;> with_reducible rfl)
    try simp only [Act.put, List.setIfInBounds_toArray, List.set_cons_zero, List.set_cons_succ]
    refine wpAnyH_ready (rs := [2, 7]) (by kernel_rfl) (by simp) ?_
    refine AllReadyH.cons (o := ?o24w5) ?h24w5 (fun K hK => ?c24w5) (AllReadyH.cons (o := ?o74w5) ?h74w5 (fun K hK => ?c74w5) AllReadyH.nil)
    case h24w5 => simp only [List.getElem?_toArray]; rfl
    case h74w5 => simp only [List.getElem?_toArray]; rfl
    case c24w5 =>
      go_simp
      refine (mul_e z16 z16 hz16 hz16 _).mono ?_
      rintro e y4w6 ⟨z30, rfl, hz30, Hz30, hb4w6⟩
      refine hK.out _ _ (hH.trans hb4w6) (fun hH' => ?_)
      clear hK K hH
      have hH := hH'
      clear hH'
      try simp only [List.setIfInBounds_toArray, List.set]
      clear hb4w6
      refine wpAnyH_ready (rs := [5, 7]) (by kernel_rfl) (by simp) ?_
      refine AllReadyH.cons (o := ?o54w7) ?h54w7 (fun K hK => ?c54w7) (AllReadyH.cons (o := ?o74w7) ?h74w7 (fun K hK => ?c74w7) AllReadyH.nil)
      case h54w7 => simp only [List.getElem?_toArray]; rfl
      case h74w7 => simp only [List.getElem?_toArray]; rfl
      case c54w7 =>
        go_simp
        refine (mul_e z20 z20 hz20 hz20 _).mono ?_
        rintro e y4w8 ⟨z33, rfl, hz33, Hz33, hb4w8⟩
        refine hK.out _ _ (hH.trans hb4w8) (fun hH' => ?_)
        clear hK K hH
        have hH := hH'
        clear hH'
        try simp only [List.setIfInBounds_toArray, List.set]
        clear hb4w8
        refine wpAnyH_ready (rs := [6, 7]) (by kernel_rfl) (by simp) ?_
        refine AllReadyH.cons (o := ?o64w9) ?h64w9 (fun K hK => ?c64w9) (AllReadyH.cons (o := ?o74w9) ?h74w9 (fun K hK => ?c74w9) AllReadyH.nil)
        case h64w9 => simp only [List.getElem?_toArray]; rfl
        case h74w9 => simp only [List.getElem?_toArray]; rfl
        case c64w9 =>
          go_simp
          refine (sub_e z30 z33 hz30 hz33 _).mono ?_
          rintro e y4w10 ⟨z34, rfl, hz34, Hz34, hb4w10⟩
          refine hK.out _ _ (hH.trans hb4w10) (fun hH' => ?_)
          clear hK K hH
          have hH := hH'
          clear hH'
          try simp only [List.setIfInBounds_toArray, List.set]
          clear hb4w10
          refine wpAnyH_ready (rs := [7]) (by kernel_rfl) (by simp) ?_
          refine AllReadyH.cons (o := ?o74w11) ?h74w11 (fun K hK => ?_) AllReadyH.nil
          case h74w11 => simp only [List.getElem?_toArray]; rfl
          go_simp
          have hL12 : W11.heap.size ≤ y4w10.heap.size := hH.size
          refine hK.out _ _ (hH.trans (bel1 _ _)) (fun hH' => ?_)
          clear hK K hH
          have hH := hH'
          clear hH'
          try simp only [List.setIfInBounds_toArray, List.set]
          have O12w : Hid (Own (y4w10.alloc (.cells #[.int .u64 0, .int .u64 0, .int .u64 0, .int .u64 0] 28)) y4w10.heap.size) := own_new y4w10 _ _ _ _ _
          generalize y4w10.alloc (.cells #[.int .u64 0, .int .u64 0, .int .u64 0, .int .u64 0] 28) = x4w11 at *
          generalize y4w10.heap.size = b12w at *
          have hg12 : w.heap.size ≤ b12w := by omega
          obtain ⟨⟨_, nc0⟩, ⟨_, nc1⟩, ⟨_, nc2⟩, ⟨_, nc3⟩, nf0, nf1, nf2, nf3⟩ := O12w.out
          refine wpAnyH_ready (rs := [8]) (by kernel_rfl) (by simp) ?_
          refine AllReadyH.cons (o := ?o84w12) ?h84w12 (fun K hK => ?_) AllReadyH.nil
          case h84w12 => simp only [List.getElem?_toArray]; rfl
          go_simp
          refine hK.out _ _ (hH.set4 _ (by omega) _ _ _ _) (fun hH' => ?_)
          clear hK K hH
          have hH := hH'
          clear hH'
          try simp only [List.setIfInBounds_toArray, List.set]
          have V12w : Hid (Var ((((x4w11.setCell ⟨b12w, 0, none⟩ (.int .u64 (e0 z34))).setCell ⟨b12w, 1, none⟩ (.int .u64 (e1 z34))).setCell ⟨b12w, 2, none⟩ (.int .u64 (e2 z34))).setCell ⟨b12w, 3, none⟩ (.int .u64 (e3 z34))) b12w z34) := var_set x4w11 b12w z34 O12w.out
          clear O12w nc0 nc1 nc2 nc3 nf0 nf1 nf2 nf3
          generalize (((x4w11.setCell ⟨b12w, 0, none⟩ (.int .u64 (e0 z34))).setCell ⟨b12w, 1, none⟩ (.int .u64 (e1 z34))).setCell ⟨b12w, 2, none⟩ (.int .u64 (e2 z34))).setCell ⟨b12w, 3, none⟩ (.int .u64 (e3 z34)) = x4w12 at *
          refine wpAnyH_done (by kernel_rfl) ?_ _
          refine NoPanic.normal ?_
          go_wp2_with fail
          go_meet
          case rel => exact ⟨_, _, rfl, hz34, (by unfold Hid; rw [Hz34.out, Hz30.out, Hz33.out]), V12w, hg12, hH⟩
        case c74w9 =>
          go_simp
          have hL12 : W11.heap.size ≤ y4w8.heap.size := hH.size
          refine hK.out _ _ (hH.trans (bel1 _ _)) (fun hH' => ?_)
          clear hK K hH
          have hH := hH'
          clear hH'
          try simp only [List.setIfInBounds_toArray, List.set]
          have O12w : Hid (Own (y4w8.alloc (.cells #[.int .u64 0, .int .u64 0, .int .u64 0, .int .u64 0] 28)) y4w8.heap.size) := own_new y4w8 _ _ _ _ _
          generalize y4w8.alloc (.cells #[.int .u64 0, .int .u64 0, .int .u64 0, .int .u64 0] 28) = x4w13 at *
          generalize y4w8.heap.size = b12w at *
          have hg12 : w.heap.size ≤ b12w := by omega
          refine wpAnyH_ready (rs := [6]) (by kernel_rfl) (by simp) ?_
          refine AllReadyH.cons (o := ?o64w14) ?h64w14 (fun K hK => ?_) AllReadyH.nil
          case h64w14 => simp only [List.getElem?_toArray]; rfl
          go_simp
          refine (sub_e z30 z33 hz30 hz33 _).mono ?_
          rintro e y4w14 ⟨z34, rfl, hz34, Hz34, hb4w14⟩
          refine hK.out _ _ (hH.trans hb4w14) (fun hH' => ?_)
          clear hK K hH
          have hH := hH'
          clear hH'
          try simp only [List.setIfInBounds_toArray, List.set]
          replace O12w : Hid (Own y4w14 b12w) := O12w.out.later hb4w14
          clear hb4w14
          obtain ⟨⟨_, nc0⟩, ⟨_, nc1⟩, ⟨_, nc2⟩, ⟨_, nc3⟩, nf0, nf1, nf2, nf3⟩ := O12w.out
          refine wpAnyH_ready (rs := [8]) (by kernel_rfl) (by simp) ?_
          refine AllReadyH.cons (o := ?o84w15) ?h84w15 (fun K hK => ?_) AllReadyH.nil
          case h84w15 => simp only [List.getElem?_toArray]; rfl
          go_simp
          refine hK.out _ _ (hH.set4 _ (by omega) _ _ _ _) (fun hH' => ?_)
          clear hK K hH
          have hH := hH'
          clear hH'
          try simp only [List.setIfInBounds_toArray, List.set]
          have V12w : Hid (Var ((((y4w14.setCell ⟨b12w, 0, none⟩ (.int .u64 (e0 z34))).setCell ⟨b12w, 1, none⟩ (.int .u64 (e1 z34))).setCell ⟨b12w, 2, none⟩ (.int .u64 (e2 z34))).setCell ⟨b12w, 3, none⟩ (.int .u64 (e3 z34))) b12w z34) := var_set y4w14 b12w z34 O12w.out
          clear O12w nc0 nc1 nc2 nc3 nf0 nf1 nf2 nf3
          generalize (((y4w14.setCell ⟨b12w, 0, none⟩ (.int .u64 (e0 z34))).setCell ⟨b12w, 1, none⟩ (.int .u64 (e1 z34))).setCell ⟨b12w, 2, none⟩ (.int .u64 (e2 z34))).setCell ⟨b12w, 3, none⟩ (.int .u64 (e3 z34)) = x4w15 at *
          refine wpAnyH_done (by kernel_rfl) ?_ _
          refine NoPanic.normal ?_
          go_wp2_with fail
          go_meet
          case rel => exact ⟨_, _, rfl, hz34, (by unfold Hid; rw [Hz34.out, Hz30.out, Hz33.out]), V12w, hg12, hH⟩
      case c74w7 =>
        go_simp
        have hL12 : W11.heap.size ≤ y4w6.heap.size := hH.size
        refine hK.out _ _ (hH.trans (bel1 _ _)) (fun hH' => ?_)
        clear hK K hH
        have hH := hH'
        clear hH'
        try simp only [List.setIfInBounds_toArray, List.set]
        have O12w : Hid (Own (y4w6.alloc (.cells #[.int .u64 0, .int .u64 0, .int .u64 0, .int .u64 0] 28)) y4w6.heap.size) := own_new y4w6 _ _ _ _ _
        generalize y4w6.alloc (.cells #[.int .u64 0, .int .u64 0, .int .u64 0, .int .u64 0] 28) = x4w16 at *
        generalize y4w6.heap.size = b12w at *
        have hg12 : w.heap.size ≤ b12w := by omega
        refine wpAnyH_ready (rs := [5]) (by kernel_rfl) (by simp) ?_
        refine AllReadyH.cons (o := ?o54w17) ?h54w17 (fun K hK => ?_) AllReadyH.nil
        case h54w17 => simp only [List.getElem?_toArray]; rfl
        go_simp
        refine (mul_e z20 z20 hz20 hz20 _).mono ?_
        rintro e y4w17 ⟨z33, rfl, hz33, Hz33, hb4w17⟩
        refine hK.out _ _ (hH.trans hb4w17) (fun hH' => ?_)
        clear hK K hH
        have hH := hH'
        clear hH'
        try simp only [List.setIfInBounds_toArray, List.set]
        replace O12w : Hid (Own y4w17 b12w) := O12w.out.later hb4w17
        clear hb4w17
        refine wpAnyH_ready (rs := [6]) (by kernel_rfl) (by simp) ?_
        refine AllReadyH.cons (o := ?o64w18) ?h64w18 (fun K hK => ?_) AllReadyH.nil
        case h64w18 => simp only [List.getElem?_toArray]; rfl
        go_simp
        refine (sub_e z30 z33 hz30 hz33 _).mono ?_
        rintro e y4w18 ⟨z34, rfl, hz34, Hz34, hb4w18⟩
        refine hK.out _ _ (hH.trans hb4w18) (fun hH' => ?_)
        clear hK K hH
        have hH := hH'
        clear hH'
        try simp only [List.setIfInBounds_toArray, List.set]
        replace O12w : Hid (Own y4w18 b12w) := O12w.out.later hb4w18
        clear hb4w18
        obtain ⟨⟨_, nc0⟩, ⟨_, nc1⟩, ⟨_, nc2⟩, ⟨_, nc3⟩, nf0, nf1, nf2, nf3⟩ := O12w.out
        refine wpAnyH_ready (rs := [8]) (by kernel_rfl) (by simp) ?_
        refine AllReadyH.cons (o := ?o84w19) ?h84w19 (fun K hK => ?_) AllReadyH.nil
        case h84w19 => simp only [List.getElem?_toArray]; rfl
        go_simp
        refine hK.out _ _ (hH.set4 _ (by omega) _ _ _ _) (fun hH' => ?_)
        clear hK K hH
        have hH := hH'
        clear hH'
        try simp only [List.setIfInBounds_toArray, List.set]
        have V12w : Hid (Var ((((y4w18.setCell ⟨b12w, 0, none⟩ (.int .u64 (e0 z34))).setCell ⟨b12w, 1, none⟩ (.int .u64 (e1 z34))).setCell ⟨b12w, 2, none⟩ (.int .u64 (e2 z34))).setCell ⟨b12w, 3, none⟩ (.int .u64 (e3 z34))) b12w z34) := var_set y4w18 b12w z34 O12w.out
        clear O12w nc0 nc1 nc2 nc3 nf0 nf1 nf2 nf3
        generalize (((y4w18.setCell ⟨b12w, 0, none⟩ (.int .u64 (e0 z34))).setCell ⟨b12w, 1, none⟩ (.int .u64 (e1 z34))).setCell ⟨b12w, 2, none⟩ (.int .u64 (e2 z34))).setCell ⟨b12w, 3, none⟩ (.int .u64 (e3 z34)) = x4w19 at *
        refine wpAnyH_done (by kernel_rfl) ?_ _
        refine NoPanic.normal ?_
        go_wp2_with fail
        go_meet
        case rel => exact ⟨_, _, rfl, hz34, (by unfold Hid; rw [Hz34.out, Hz30.out, Hz33.out]), V12w, hg12, hH⟩
    case c74w5 =>
      go_simp
      have hL12 : W11.heap.size ≤ y0.heap.size := hH.size
      refine hK.out _ _ (hH.trans (bel1 _ _)) (fun hH' => ?_)
      clear hK K hH
      have hH := hH'
      clear hH'
      try simp only [List.setIfInBounds_toArray, List.set]
      have O12w : Hid (Own (y0.alloc (.cells #[.int .u64 0, .int .u64 0, .int .u64 0, .int .u64 0] 28)) y0.heap.size) := own_new y0 _ _ _ _ _
      generalize y0.alloc (.cells #[.int .u64 0, .int .u64 0, .int .u64 0, .int .u64 0] 28) = x4w20 at *
      generalize y0.heap.size = b12w at *
      have hg12 : w.heap.size ≤ b12w := by omega
      refine wpAnyH_ready (rs := [2]) (by kernel_rfl) (by simp) ?_
      refine AllReadyH.cons (o := ?o24w21) ?h24w21 (fun K hK => ?_) AllReadyH.nil
      case h24w21 => simp only [List.getElem?_toArray]; rfl
      go_simp
      refine (mul_e z16 z16 hz16 hz16 _).mono ?_
      rintro e y4w21 ⟨z30, rfl, hz30, Hz30, hb4w21⟩
      refine hK.out _ _ (hH.trans hb4w21) (fun hH' => ?_)
      clear hK K hH
      have hH := hH'
      clear hH'
      try simp only [List.setIfInBounds_toArray, List.set]
      replace O12w : Hid (Own y4w21 b12w) := O12w.out.later hb4w21
      clear hb4w21
      refine wpAnyH_ready (rs := [5]) (by kernel_rfl) (by simp) ?_
      refine AllReadyH.cons (o := ?o54w22) ?h54w22 (fun K hK => ?_) AllReadyH.nil
      case h54w22 => simp only [List.getElem?_toArray]; rfl
      go_simp
      refine (mul_e z20 z20 hz20 hz20 _).mono ?_
      rintro e y4w22 ⟨z33, rfl, hz33, Hz33, hb4w22⟩
      refine hK.out _ _ (hH.trans hb4w22) (fun hH' => ?_)
      clear hK K hH
      have hH := hH'
      clear hH'
      try simp only [List.setIfInBounds_toArray, List.set]
      replace O12w : Hid (Own y4w22 b12w) := O12w.out.later hb4w22
      clear hb4w22
      refine wpAnyH_ready (rs := [6]) (by kernel_rfl) (by simp) ?_
      refine AllReadyH.cons (o := ?o64w23) ?h64w23 (fun K hK => ?_) AllReadyH.nil
      case h64w23 => simp only [List.getElem?_toArray]; rfl
      go_simp
      refine (sub_e z30 z33 hz30 hz33 _).mono ?_
      rintro e y4w23 ⟨z34, rfl, hz34, Hz34, hb4w23⟩
      refine hK.out _ _ (hH.trans hb4w23) (fun hH' => ?_)
      clear hK K hH
      have hH := hH'
      clear hH'
      try simp only [List.setIfInBounds_toArray, List.set]
      replace O12w : Hid (Own y4w23 b12w) := O12w.out.later hb4w23
      clear hb4w23
      obtain ⟨⟨_, nc0⟩, ⟨_, nc1⟩, ⟨_, nc2⟩, ⟨_, nc3⟩, nf0, nf1, nf2, nf3⟩ := O12w.out
      refine wpAnyH_ready (rs := [8]) (by kernel_rfl) (by simp) ?_
      refine AllReadyH.cons (o := ?o84w24) ?h84w24 (fun K hK => ?_) AllReadyH.nil
      case h84w24 => simp only [List.getElem?_toArray]; rfl
      go_simp
      refine hK.out _ _ (hH.set4 _ (by omega) _ _ _ _) (fun hH' => ?_)
      clear hK K hH
      have hH := hH'
      clear hH'
      try simp only [List.setIfInBounds_toArray, List.set]
      have V12w : Hid (Var ((((y4w23.setCell ⟨b12w, 0, none⟩ (.int .u64 (e0 z34))).setCell ⟨b12w, 1, none⟩ (.int .u64 (e1 z34))).setCell ⟨b12w, 2, none⟩ (.int .u64 (e2 z34))).setCell ⟨b12w, 3, none⟩ (.int .u64 (e3 z34))) b12w z34) := var_set y4w23 b12w z34 O12w.out
      clear O12w nc0 nc1 nc2 nc3 nf0 nf1 nf2 nf3
      generalize (((y4w23.setCell ⟨b12w, 0, none⟩ (.int .u64 (e0 z34))).setCell ⟨b12w, 1, none⟩ (.int .u64 (e1 z34))).setCell ⟨b12w, 2, none⟩ (.int .u64 (e2 z34))).setCell ⟨b12w, 3, none⟩ (.int .u64 (e3 z34)) = x4w24 at *
      refine wpAnyH_done (by kernel_rfl) ?_ _
      refine NoPanic.normal ?_
      go_wp2_with fail
      go_meet
      case rel => exact ⟨_, _, rfl, hz34, (by unfold Hid; rw [Hz34.out, Hz30.out, Hz33.out]), V12w, hg12, hH⟩
  obtain ⟨b12, v12, rfl, hv12, Hv12, V12, hge12, hX⟩ := hcut
  generalize wc = W12 at *
  replace V9 : Hid (Var W12 b9 z16) := V9.out.later hX.out
  replace V10 : Hid (Var W12 b10 z20) := V10.out.later hX.out
  replace V11 : Hid (Var W12 b11 v11) := V11.out.later hX.out
  replace A4 : Hid (Arr W12 (w.heap.size) (List.map (Value.int .u8) a)) := A4.out.later hX.out
  replace A5 : Hid (Arr W12 q1 (List.map (Value.int .u8) b)) := A5.out.later hX.out
  replace HB : Hid (Below w.heap.size w W12) := HB.out.trans (Below.mono hX.out HB.out.size)
  clear hX
  go_upto_region 5 with fail
  obtain ⟨V9c0, V9c1, V9c2, V9c3⟩ := V9.out
  have V9u0 : ∀ u, Ext W12 u → u.cell? ⟨b9, 0, none⟩ = some (.int .u64 (e0 z16)) := fun u hu => hu.cell V9c0
  have V9u1 : ∀ u, Ext W12 u → u.cell? ⟨b9, 1, none⟩ = some (.int .u64 (e1 z16)) := fun u hu => hu.cell V9c1
  have V9u2 : ∀ u, Ext W12 u → u.cell? ⟨b9, 2, none⟩ = some (.int .u64 (e2 z16)) := fun u hu => hu.cell V9c2
  have V9u3 : ∀ u, Ext W12 u → u.cell? ⟨b9, 3, none⟩ = some (.int .u64 (e3 z16)) := fun u hu => hu.cell V9c3
  clear V9c0 V9c1 V9c2 V9c3
  obtain ⟨V11c0, V11c1, V11c2, V11c3⟩ := V11.out
  have V11u0 : ∀ u, Ext W12 u → u.cell? ⟨b11, 0, none⟩ = some (.int .u64 (e0 v11)) := fun u hu => hu.cell V11c0
  have V11u1 : ∀ u, Ext W12 u → u.cell? ⟨b11, 1, none⟩ = some (.int .u64 (e1 v11)) := fun u hu => hu.cell V11c1
  have V11u2 : ∀ u, Ext W12 u → u.cell? ⟨b11, 2, none⟩ = some (.int .u64 (e2 v11)) := fun u hu => hu.cell V11c2
  have V11u3 : ∀ u, Ext W12 u → u.cell? ⟨b11, 3, none⟩ = some (.int .u64 (e3 v11)) := fun u hu => hu.cell V11c3
  clear V11c0 V11c1 V11c2 V11c3
  obtain ⟨V12c0, V12c1, V12c2, V12c3⟩ := V12.out
  have V12u0 : ∀ u, Ext W12 u → u.cell? ⟨b12, 0, none⟩ = some (.int .u64 (e0 v12)) := fun u hu => hu.cell V12c0
  have V12u1 : ∀ u, Ext W12 u → u.cell? ⟨b12, 1, none⟩ = some (.int .u64 (e1 v12)) := fun u hu => hu.cell V12c1
  have V12u2 : ∀ u, Ext W12 u → u.cell? ⟨b12, 2, none⟩ = some (.int .u64 (e2 v12)) := fun u hu => hu.cell V12c2
  have V12u3 : ∀ u, Ext W12 u → u.cell? ⟨b12, 3, none⟩ = some (.int .u64 (e3 v12)) := fun u hu => hu.cell V12c3
  clear V12c0 V12c1 V12c2 V12c3
  refine wp_region_noPanic ?_
  refine wp_region_held_drew (S := Ext W12) (by kernel_rfl) (Ext.refl _).drew (fun hH => ?_)
  change wpAnyH _ _ _ _ _ _ #[false, false, false, false, false, false, false, false, false, false, false, false, false, false, false, false, false, false, false, false, false, false, false] _ _
  refine wpAnyH_ready (rs := [0]) (by kernel_rfl) (by simp) ?_
  refine AllReadyH.cons (o := ?o0r5) ?h0r5 (fun K hK => ?_) AllReadyH.nil
  case h0r5 => simp only [List.getElem?_toArray]; rfl
  go_simp
  refine (known_any _).mono ?_
  rintro e c5_0 ⟨rfl, hb5_0⟩
  refine hK.out _ _ (hH.trans hb5_0) (fun hH' => ?_)
  clear hK K hH
  have hH := hH'
  clear hH'
  try simp only [List.setIfInBounds_toArray, List.set]
  clear hb5_0
  refine wpAnyH_take (i := 1) (oi := ?o1r5) (v := ?v1r5) ?h1r5 (by kernel_rfl) ?f1r5 ?r1r5 (fun _ _ _ h => h) (Or.inl ⟨?w1r5, ?y1r5⟩) (by assumption) ?t1r5
  case h1r5 => simp only [List.getElem?_toArray]; rfl
  case f1r5 => kernel_rfl
  case r1r5 => kernel_rfl
  case w1r5 => rfl
  case y1r5 => (intro u hu; (go_simp) <;> with_reducible rfl)
  try simp only [Act.put, List.setIfInBounds_toArray, List.set_cons_zero, List.set_cons_succ]
  refine wpAnyH_take (i := 2) (oi := ?o2r5) (v := ?v2r5) ?h2r5 (by kernel_rfl) ?f2r5 ?r2r5 (fun _ _ _ h => h) (Or.inl ⟨?w2r5, ?y2r5⟩) (by assumption) ?t2r5
  case h2r5 => simp only [List.getElem?_toArray]; rfl
  case f2r5 => kernel_rfl
  case r2r5 => kernel_rfl
  case w2r5 => rfl
  case y2r5 => (intro u hu; (go_simp) <;> with_reducible rfl)
  try simp only [Act.put, List.setIfInBounds_toArray, List.set_cons_zero, List.set_cons_succ]
  refine wpAnyH_take (i := 3) (oi := ?o3r5) (v := ?v3r5) ?h3r5 (by kernel_rfl) ?f3r5 ?r3r5 (fun _ _ _ h => h) (Or.inl ⟨?w3r5, ?y3r5⟩) (by assumption) ?t3r5
  case h3r5 => simp only [List.getElem?_toArray]; rfl
  case f3r5 => kernel_rfl
  case r3r5 => kernel_rfl
  case w3r5 => rfl
  case y3r5 => (intro u hu; (go_simp) <;> with_reducible rfl)
  try simp only [Act.put, List.setIfInBounds_toArray, List.set_cons_zero, List.set_cons_succ]
  refine wpAnyH_ready (rs := [4]) (by kernel_rfl) (by simp) ?_
  refine AllReadyH.cons (o := ?o4r5) ?h4r5 (fun K hK => ?_) AllReadyH.nil
  case h4r5 => simp only [List.getElem?_toArray]; rfl
  go_simp
  refine (equal_e v11 v12 hv11 hv12 _).mono ?_
  rintro e c5_4 ⟨rfl, hb5_4⟩
  rw [show same v11 v12 = true from same_t (by rw [Hv11.out, Hv12.out, sq_law])]
  refine hK.out _ _ (hH.trans hb5_4) (fun hH' => ?_)
  clear hK K hH
  have hH := hH'
  clear hH'
  try simp only [List.setIfInBounds_toArray, List.set]
  clear hb5_4
  refine wpAnyH_take (i := 5) (oi := ?o5r5) (v := ?v5r5) ?h5r5 (by kernel_rfl) ?f5r5 ?r5r5 (fun _ _ _ h => h) (Or.inl ⟨?w5r5, ?y5r5⟩) (by assumption) ?t5r5
  case h5r5 => simp only [List.getElem?_toArray]; rfl
  case f5r5 => kernel_rfl
  case r5r5 => kernel_rfl
  case w5r5 => rfl
  case y5r5 => (intro u hu; (go_simp) <;> with_reducible rfl)
  try simp only [Act.put, List.setIfInBounds_toArray, List.set_cons_zero, List.set_cons_succ]
  refine wpAnyH_take (i := 6) (oi := ?o6r5) (v := ?v6r5) ?h6r5 (by kernel_rfl) ?f6r5 ?r6r5 (fun _ _ _ h => h) (Or.inl ⟨?w6r5, ?y6r5⟩) (by assumption) ?t6r5
  case h6r5 => simp only [List.getElem?_toArray]; rfl
  case f6r5 => kernel_rfl
  case r6r5 => kernel_rfl
  case w6r5 => rfl
  case y6r5 => (intro u hu; (go_simp) <;> with_reducible rfl)
  try simp only [Act.put, List.setIfInBounds_toArray, List.set_cons_zero, List.set_cons_succ]
  refine wpAnyH_take (i := 9) (oi := ?o9r5) (v := ?v9r5) ?h9r5 (by kernel_rfl) ?f9r5 ?r9r5 (fun _ _ _ h => h) (Or.inl ⟨?w9r5, ?y9r5⟩) (by assumption) ?t9r5
  case h9r5 => simp only [List.getElem?_toArray]; rfl
  case f9r5 => kernel_rfl
  case r9r5 => kernel_rfl
  case w9r5 => rfl
  case y9r5 => (intro u hu; (go_simp) <;> with_reducible rfl)
  try simp only [Act.put, List.setIfInBounds_toArray, List.set_cons_zero, List.set_cons_succ]
  refine wpAnyH_take (i := 12) (oi := ?o12r5) (v := ?v12r5) ?h12r5 (by kernel_rfl) ?f12r5 ?r12r5 (fun _ _ _ h => h) (Or.inl ⟨?w12r5, ?y12r5⟩) (by assumption) ?t12r5
  case h12r5 => simp only [List.getElem?_toArray]; rfl
  case f12r5 => kernel_rfl
  case r12r5 => kernel_rfl
  case w12r5 => rfl
  case y12r5 => (intro u hu; (go_simp) <;> with_reducible rfl)
  try simp only [Act.put, List.setIfInBounds_toArray, List.set_cons_zero, List.set_cons_succ]
  refine wpAnyH_ready (rs := [7]) (by kernel_rfl) (by simp) ?_
  refine AllReadyH.cons (o := ?o7r5) ?h7r5 (fun K hK => ?_) AllReadyH.nil
  case h7r5 => simp only [List.getElem?_toArray]; rfl
  go_simp
  refine (zero_e _).mono ?_
  rintro e c5_7 ⟨rfl, hb5_7⟩
  refine hK.out _ _ (hH.trans hb5_7) (fun hH' => ?_)
  clear hK K hH
  have hH := hH'
  clear hH'
  try simp only [List.setIfInBounds_toArray, List.set]
  clear hb5_7
  refine wpAnyH_ready (rs := [8]) (by kernel_rfl) (by simp) ?_
  refine AllReadyH.cons (o := ?o8r5) ?h8r5 (fun K hK => ?_) AllReadyH.nil
  case h8r5 => simp only [List.getElem?_toArray]; rfl
  go_simp
  refine (zero_e _).mono ?_
  rintro e c5_8 ⟨rfl, hb5_8⟩
  refine hK.out _ _ (hH.trans hb5_8) (fun hH' => ?_)
  clear hK K hH
  have hH := hH'
  clear hH'
  try simp only [List.setIfInBounds_toArray, List.set]
  clear hb5_8
  refine wpAnyH_ready (rs := [10]) (by kernel_rfl) (by simp) ?_
  refine AllReadyH.cons (o := ?o10r5) ?h10r5 (fun K hK => ?_) AllReadyH.nil
  case h10r5 => simp only [List.getElem?_toArray]; rfl
  go_simp
  refine (sub_e 0 z16 El.zero hz16 _).mono ?_
  rintro e c5_10 ⟨z45, rfl, hz45, Hz45, hb5_10⟩
  refine hK.out _ _ (hH.trans hb5_10) (fun hH' => ?_)
  clear hK K hH
  have hH := hH'
  clear hH'
  try simp only [List.setIfInBounds_toArray, List.set]
  clear hb5_10
  refine wpAnyH_ready (rs := [11]) (by kernel_rfl) (by simp) ?_
  refine AllReadyH.cons (o := ?o11r5) ?h11r5 (fun K hK => ?_) AllReadyH.nil
  case h11r5 => simp only [List.getElem?_toArray]; rfl
  go_simp
  refine (sub_e 0 z45 El.zero hz45 _).mono ?_
  rintro e c5_11 ⟨z46, rfl, hz46, Hz46, hb5_11⟩
  refine hK.out _ _ (hH.trans hb5_11) (fun hH' => ?_)
  clear hK K hH
  have hH := hH'
  clear hH'
  try simp only [List.setIfInBounds_toArray, List.set]
  clear hb5_11
  refine wpAnyH_ready (rs := [13]) (by kernel_rfl) (by simp) ?_
  refine AllReadyH.cons (o := ?o13r5) ?h13r5 (fun K hK => ?_) AllReadyH.nil
  case h13r5 => simp only [List.getElem?_toArray]; rfl
  go_simp
  refine (equal_e z46 z16 hz46 hz16 _).mono ?_
  rintro e c5_13 ⟨rfl, hb5_13⟩
  rw [show same z46 z16 = true from same_t (by rw [Hz46.out, Hz45.out, neg_neg_law _ hz16])]
  refine hK.out _ _ (hH.trans hb5_13) (fun hH' => ?_)
  clear hK K hH
  have hH := hH'
  clear hH'
  try simp only [List.setIfInBounds_toArray, List.set]
  clear hb5_13
  refine wpAnyH_take (i := 14) (oi := ?o14r5) (v := ?v14r5) ?h14r5 (by kernel_rfl) ?f14r5 ?r14r5 (fun _ _ _ h => h) (Or.inl ⟨?w14r5, ?y14r5⟩) (by assumption) ?t14r5
  case h14r5 => simp only [List.getElem?_toArray]; rfl
  case f14r5 => kernel_rfl
  case r14r5 => kernel_rfl
  case w14r5 => rfl
  case y14r5 => (intro u hu; (go_simp) <;> with_reducible rfl)
  try simp only [Act.put, List.setIfInBounds_toArray, List.set_cons_zero, List.set_cons_succ]
  refine wpAnyH_take (i := 15) (oi := ?o15r5) (v := ?v15r5) ?h15r5 (by kernel_rfl) ?f15r5 ?r15r5 (fun _ _ _ h => h) (Or.inl ⟨?w15r5, ?y15r5⟩) (by assumption) ?t15r5
  case h15r5 => simp only [List.getElem?_toArray]; rfl
  case f15r5 => kernel_rfl
  case r15r5 => kernel_rfl
  case w15r5 => rfl
  case y15r5 => (intro u hu; (go_simp) <;> with_reducible rfl)
  try simp only [Act.put, List.setIfInBounds_toArray, List.set_cons_zero, List.set_cons_succ]
  refine wpAnyH_take (i := 16) (oi := ?o16r5) (v := ?v16r5) ?h16r5 (by kernel_rfl) ?f16r5 ?r16r5 (fun _ _ _ h => h) (Or.inl ⟨?w16r5, ?y16r5⟩) (by assumption) ?t16r5
  case h16r5 => simp only [List.getElem?_toArray]; rfl
  case f16r5 => kernel_rfl
  case r16r5 => kernel_rfl
  case w16r5 => rfl
  case y16r5 => (intro u hu; (go_simp) <;> with_reducible rfl)
  try simp only [Act.put, List.setIfInBounds_toArray, List.set_cons_zero, List.set_cons_succ]
  refine wpAnyH_take (i := 17) (oi := ?o17r5) (v := ?v17r5) ?h17r5 (by kernel_rfl) ?f17r5 ?r17r5 (fun _ _ _ h => h) (Or.inl ⟨?w17r5, ?y17r5⟩) (by assumption) ?t17r5
  case h17r5 => simp only [List.getElem?_toArray]; rfl
  case f17r5 => kernel_rfl
  case r17r5 => kernel_rfl
  case w17r5 => rfl
  case y17r5 => (intro u hu; (go_simp) <;> with_reducible rfl)
  try simp only [Act.put, List.setIfInBounds_toArray, List.set_cons_zero, List.set_cons_succ]
  refine wpAnyH_ready (rs := [18]) (by kernel_rfl) (by simp) ?_
  refine AllReadyH.cons (o := ?o18r5) ?h18r5 (fun K hK => ?_) AllReadyH.nil
  case h18r5 => simp only [List.getElem?_toArray]; rfl
  go_simp
  refine (sub_e z16 z16 hz16 hz16 _).mono ?_
  rintro e c5_18 ⟨z53, rfl, hz53, Hz53, hb5_18⟩
  refine hK.out _ _ (hH.trans hb5_18) (fun hH' => ?_)
  clear hK K hH
  have hH := hH'
  clear hH'
  try simp only [List.setIfInBounds_toArray, List.set]
  clear hb5_18
  refine wpAnyH_ready (rs := [19]) (by kernel_rfl) (by simp) ?_
  refine AllReadyH.cons (o := ?o19r5) ?h19r5 (fun K hK => ?_) AllReadyH.nil
  case h19r5 => simp only [List.getElem?_toArray]; rfl
  go_simp
  refine (zero_e _).mono ?_
  rintro e c5_19 ⟨rfl, hb5_19⟩
  refine hK.out _ _ (hH.trans hb5_19) (fun hH' => ?_)
  clear hK K hH
  have hH := hH'
  clear hH'
  try simp only [List.setIfInBounds_toArray, List.set]
  clear hb5_19
  refine wpAnyH_ready (rs := [20]) (by kernel_rfl) (by simp) ?_
  refine AllReadyH.cons (o := ?o20r5) ?h20r5 (fun K hK => ?_) AllReadyH.nil
  case h20r5 => simp only [List.getElem?_toArray]; rfl
  go_simp
  refine (equal_e z53 0 hz53 El.zero _).mono ?_
  rintro e c5_20 ⟨rfl, hb5_20⟩
  rw [show same z53 0 = true from same_t (by rw [Hz53.out, Int.sub_self]; rfl)]
  refine hK.out _ _ (hH.trans hb5_20) (fun hH' => ?_)
  clear hK K hH
  have hH := hH'
  clear hH'
  try simp only [List.setIfInBounds_toArray, List.set]
  clear hb5_20
  refine wpAnyH_take (i := 21) (oi := ?o21r5) (v := ?v21r5) ?h21r5 (by kernel_rfl) ?f21r5 ?r21r5 (fun _ _ _ h => h) (Or.inl ⟨?w21r5, ?y21r5⟩) (by assumption) ?t21r5
  case h21r5 => simp only [List.getElem?_toArray]; rfl
  case f21r5 => kernel_rfl
  case r21r5 => kernel_rfl
  case w21r5 => rfl
  case y21r5 => (intro u hu; (go_simp) <;> with_reducible rfl)
  try simp only [Act.put, List.setIfInBounds_toArray, List.set_cons_zero, List.set_cons_succ]
  refine wpAnyH_take (i := 22) (oi := ?o22r5) (v := ?v22r5) ?h22r5 (by kernel_rfl) ?f22r5 ?r22r5 (fun _ _ _ h => h) (Or.inl ⟨?w22r5, ?y22r5⟩) (by assumption) ?t22r5
  case h22r5 => simp only [List.getElem?_toArray]; rfl
  case f22r5 => kernel_rfl
  case r22r5 => kernel_rfl
  case w22r5 => rfl
  case y22r5 => (intro u hu; (go_simp) <;> with_reducible rfl)
  try simp only [Act.put, List.setIfInBounds_toArray, List.set_cons_zero, List.set_cons_succ]
  refine wpAnyH_done (by kernel_rfl) ?_ _
  refine NoPanic.normal ?_
  go_wp2
  go_ret
  exact ⟨rfl, HB.out.trans (Below.mono hH HB.out.size)⟩
end Go.Proofs.Ytgnfbnjhmiggbaa
