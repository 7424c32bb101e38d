/-
  The walk of FieldLaws: true for whatever bytes and numbers. No statement of the seat is proved here.
-/
import Derived.Test.YtgnfbnjhmiggbaaLLawsA
import Derived.Test.YtgnfbnjhmiggbaaLLawsB
import Derived.Test.YtgnfbnjhmiggbaaLLawsC
import Derived.Test.YtgnfbnjhmiggbaaLLawsD
namespace Go.Proofs.Ytgnfbnjhmiggbaa
open Go.RowKit

set_option maxRecDepth 20000 in
set_option maxHeartbeats 16000000 in
theorem fieldLaws_walk (a b c : List Int) (n m : Int) (ha : By a) (hb : By b) (hc : By c) (hn : -9223372036854775808 ≤ n ∧ n ≤ 9223372036854775807) (hm : -9223372036854775808 ≤ m ∧ m ≤ 9223372036854775807) (w : World) :
    Calls Try.prog 5 #[(.agg (List.map (Value.int .u8) a).toArray), (.agg (List.map (Value.int .u8) b).toArray), (.agg (List.map (Value.int .u8) c).toArray), .int .i64 n, .int .i64 m] w fun e w' => e = .returned (.bool true) ∧ Below w.heap.size w w' := by
  go_enter Try.func5, Try.ntmps5
  go_upto_region 1 with fail
  have HB : Hid (Below w.heap.size w (((w.alloc (.cells (List.map (Value.int .u8) a).toArray 22)).alloc (.cells (List.map (Value.int .u8) b).toArray 22)).alloc (.cells (List.map (Value.int .u8) c).toArray 22))) := bel3 _ _ _ _
  have A5 : Hid (Arr (((w.alloc (.cells (List.map (Value.int .u8) a).toArray 22)).alloc (.cells (List.map (Value.int .u8) b).toArray 22)).alloc (.cells (List.map (Value.int .u8) c).toArray 22)) (w.heap.size) (List.map (Value.int .u8) a)) := by
    have := ((arr_box w a ha).later (bel1 _ (.cells (List.map (Value.int .u8) b).toArray 22))).later (bel1 _ (.cells (List.map (Value.int .u8) c).toArray 22))
    simpa [Hid] using this
  have A6 : Hid (Arr (((w.alloc (.cells (List.map (Value.int .u8) a).toArray 22)).alloc (.cells (List.map (Value.int .u8) b).toArray 22)).alloc (.cells (List.map (Value.int .u8) c).toArray 22)) (w.heap.size + 1) (List.map (Value.int .u8) b)) := by
    have := (arr_box (w.alloc (.cells (List.map (Value.int .u8) a).toArray 22)) b hb).later (bel1 _ (.cells (List.map (Value.int .u8) c).toArray 22))
    simpa [Hid] using this
  have A7 : Hid (Arr (((w.alloc (.cells (List.map (Value.int .u8) a).toArray 22)).alloc (.cells (List.map (Value.int .u8) b).toArray 22)).alloc (.cells (List.map (Value.int .u8) c).toArray 22)) (w.heap.size + 1 + 1) (List.map (Value.int .u8) c)) := by
    have := arr_box ((w.alloc (.cells (List.map (Value.int .u8) a).toArray 22)).alloc (.cells (List.map (Value.int .u8) b).toArray 22)) c hc
    simpa [Hid] using this
  generalize ((w.alloc (.cells (List.map (Value.int .u8) a).toArray 22)).alloc (.cells (List.map (Value.int .u8) b).toArray 22)).alloc (.cells (List.map (Value.int .u8) c).toArray 22) = W0 at *
  generalize w.heap.size + 1 + 1 = q2 at *
  generalize w.heap.size + 1 = q1 at *
  go_wp2_with (first | (refine wpList_load_mid rfl 22 (.tmp 5) rfl (w.heap.size) 0 rfl (List.map (Value.int .u8) a) _ A5.out.rng Try.underlying22 rfl (by_cells ha).2.2 ?_))
  refine (edge_any a ha n hn _).mono ?_
  rintro e u1_0 ⟨l18, rfl, hl18, hb1_0⟩
  have hc1_1 : Hid (Below W0.heap.size W0 u1_0) := hb1_0
  clear hb1_0
  go_wp2_with fail
  refine (from_e l18 hl18 _).mono ?_
  rintro e u1_1 ⟨z19, rfl, hz19, Hz19, hb1_1⟩
  have hc1_2 : Hid (Below W0.heap.size W0 u1_1) := hc1_1.out.trans ((hb1_1).mono hc1_1.out.size)
  clear hb1_1 hc1_1
  go_upto_region 2 with fail
  have hX : Hid (Below W0.heap.size W0 (u1_1.alloc (.cells #[.int .u64 (e0 z19), .int .u64 (e1 z19), .int .u64 (e2 z19), .int .u64 (e3 z19)] 28))) := hc1_2.out.trans ((bel1 u1_1 _).mono hc1_2.out.size)
  have V11 : Hid (Var (u1_1.alloc (.cells #[.int .u64 (e0 z19), .int .u64 (e1 z19), .int .u64 (e2 z19), .int .u64 (e3 z19)] 28)) (u1_1.heap.size) z19) := var_new u1_1 z19 _
  have hge11 : w.heap.size ≤ u1_1.heap.size := Nat.le_trans HB.out.size hc1_2.out.size
  generalize u1_1.alloc (.cells #[.int .u64 (e0 z19), .int .u64 (e1 z19), .int .u64 (e2 z19), .int .u64 (e3 z19)] 28) = W11 at *
  generalize u1_1.heap.size = b11 at *
  replace A5 : Hid (Arr W11 (w.heap.size) (List.map (Value.int .u8) a)) := A5.out.later hX.out
  replace A6 : Hid (Arr W11 q1 (List.map (Value.int .u8) b)) := A6.out.later hX.out
  replace A7 : Hid (Arr W11 q2 (List.map (Value.int .u8) c)) := A7.out.later hX.out
  replace HB : Hid (Below w.heap.size w W11) := HB.out.trans (Below.mono hX.out HB.out.size)
  clear hX hc1_2
  go_wp2_with (first | (refine wpList_load_mid rfl 22 (.tmp 6) rfl q1 0 rfl (List.map (Value.int .u8) b) _ A6.out.rng Try.underlying22 rfl (by_cells hb).2.2 ?_))
  refine (edge_any b hb m hm _).mono ?_
  rintro e u2_0 ⟨l22, rfl, hl22, hb2_0⟩
  have hc2_1 : Hid (Below W11.heap.size W11 u2_0) := hb2_0
  clear hb2_0
  try clear V11c0 V11c1 V11c2 V11c3
  go_wp2_with fail
  refine (from_e l22 hl22 _).mono ?_
  rintro e u2_1 ⟨z23, rfl, hz23, Hz23, hb2_1⟩
  have hc2_2 : Hid (Below W11.heap.size W11 u2_1) := hc2_1.out.trans ((hb2_1).mono hc2_1.out.size)
  clear hb2_1 hc2_1
  try clear V11c0 V11c1 V11c2 V11c3
  go_upto_region 3 with fail
  have hX : Hid (Below W11.heap.size W11 (u2_1.alloc (.cells #[.int .u64 (e0 z23), .int .u64 (e1 z23), .int .u64 (e2 z23), .int .u64 (e3 z23)] 28))) := hc2_2.out.trans ((bel1 u2_1 _).mono hc2_2.out.size)
  have V12 : Hid (Var (u2_1.alloc (.cells #[.int .u64 (e0 z23), .int .u64 (e1 z23), .int .u64 (e2 z23), .int .u64 (e3 z23)] 28)) (u2_1.heap.size) z23) := var_new u2_1 z23 _
  have hge12 : w.heap.size ≤ u2_1.heap.size := Nat.le_trans HB.out.size hc2_2.out.size
  have lt12_V11 : b11 < u2_1.heap.size := (V11.out.later hc2_2.out).lt
  generalize u2_1.alloc (.cells #[.int .u64 (e0 z23), .int .u64 (e1 z23), .int .u64 (e2 z23), .int .u64 (e3 z23)] 28) = W12 at *
  generalize u2_1.heap.size = b12 at *
  replace V11 : Hid (Var W12 b11 z19) := V11.out.later hX.out
  replace A5 : Hid (Arr W12 (w.heap.size) (List.map (Value.int .u8) a)) := A5.out.later hX.out
  replace A6 : Hid (Arr W12 q1 (List.map (Value.int .u8) b)) := A6.out.later hX.out
  replace A7 : Hid (Arr W12 q2 (List.map (Value.int .u8) c)) := A7.out.later hX.out
  replace HB : Hid (Below w.heap.size w W12) := HB.out.trans (Below.mono hX.out HB.out.size)
  clear hX hc2_2
  go_wp2_with (first | (refine wpList_load_mid rfl 22 (.tmp 7) rfl q2 0 rfl (List.map (Value.int .u8) c) _ A7.out.rng Try.underlying22 rfl (by_cells hc).2.2 ?_))
  refine (from_e c hc _).mono ?_
  rintro e u3_0 ⟨z25, rfl, hz25, Hz25, hb3_0⟩
  have hc3_1 : Hid (Below W12.heap.size W12 u3_0) := hb3_0
  clear hb3_0
  try clear V11c0 V11c1 V11c2 V11c3
  try clear V12c0 V12c1 V12c2 V12c3
  go_upto_region 4 with fail
  have hX : Hid (Below W12.heap.size W12 (u3_0.alloc (.cells #[.int .u64 (e0 z25), .int .u64 (e1 z25), .int .u64 (e2 z25), .int .u64 (e3 z25)] 28))) := hc3_1.out.trans ((bel1 u3_0 _).mono hc3_1.out.size)
  have V13 : Hid (Var (u3_0.alloc (.cells #[.int .u64 (e0 z25), .int .u64 (e1 z25), .int .u64 (e2 z25), .int .u64 (e3 z25)] 28)) (u3_0.heap.size) z25) := var_new u3_0 z25 _
  have hge13 : w.heap.size ≤ u3_0.heap.size := Nat.le_trans HB.out.size hc3_1.out.size
  have lt13_V11 : b11 < u3_0.heap.size := (V11.out.later hc3_1.out).lt
  have lt13_V12 : b12 < u3_0.heap.size := (V12.out.later hc3_1.out).lt
  generalize u3_0.alloc (.cells #[.int .u64 (e0 z25), .int .u64 (e1 z25), .int .u64 (e2 z25), .int .u64 (e3 z25)] 28) = W13 at *
  generalize u3_0.heap.size = b13 at *
  replace V11 : Hid (Var W13 b11 z19) := V11.out.later hX.out
  replace V12 : Hid (Var W13 b12 z23) := V12.out.later hX.out
  replace A5 : Hid (Arr W13 (w.heap.size) (List.map (Value.int .u8) a)) := A5.out.later hX.out
  replace A6 : Hid (Arr W13 q1 (List.map (Value.int .u8) b)) := A6.out.later hX.out
  replace A7 : Hid (Arr W13 q2 (List.map (Value.int .u8) c)) := A7.out.later hX.out
  replace HB : Hid (Below w.heap.size w W13) := HB.out.trans (Below.mono hX.out HB.out.size)
  clear hX hc3_1
  go_cut [14] from 16 (fun tv14 wc => ∃ (b14 : Nat) (v14 : Int), tv14 = .pointer (some ⟨b14, 0, none⟩) ∧ El v14 ∧ Hid (v14 = z19 * pw z19 57896044618658097711785492504343953926634992332820282019728792003956564819947 % 57896044618658097711785492504343953926634992332820282019728792003956564819949) ∧ Hid (Var wc b14 v14) ∧ W13.heap.size ≤ b14 ∧ Hid (Below W13.heap.size W13 wc))
  case first =>
    obtain ⟨V11c0, V11c1, V11c2, V11c3⟩ := V11.out
    have V11u0 : ∀ u, Ext W13 u → u.cell? ⟨b11, 0, none⟩ = some (.int .u64 (e0 z19)) := fun u hu => hu.cell V11c0
    have V11u1 : ∀ u, Ext W13 u → u.cell? ⟨b11, 1, none⟩ = some (.int .u64 (e1 z19)) := fun u hu => hu.cell V11c1
    have V11u2 : ∀ u, Ext W13 u → u.cell? ⟨b11, 2, none⟩ = some (.int .u64 (e2 z19)) := fun u hu => hu.cell V11c2
    have V11u3 : ∀ u, Ext W13 u → u.cell? ⟨b11, 3, none⟩ = some (.int .u64 (e3 z19)) := fun u hu => hu.cell V11c3
    clear V11c0 V11c1 V11c2 V11c3
    refine wp_region_noPanic ?_
    refine wp_region_held_drew (S := Ext W13) (by kernel_rfl) (Ext.refl _).drew (fun hH => ?_)
    change wpAnyH _ _ _ _ _ _ #[false, false, false, false, false, false] _ _
    have hWs : w.heap.size ≤ W13.heap.size := HB.out.size
    generalize W13.drew = y0 at *
    refine wpAnyH_take (i := 0) (oi := ?o04w1) (v := ?v04w1) ?h04w1 (by kernel_rfl) ?f04w1 ?r04w1 (fun _ _ _ h => h) (Or.inl ⟨?w04w1, ?y04w1⟩) (by assumption) ?t04w1
    case h04w1 => simp only [List.getElem?_toArray]; rfl
    case f04w1 => kernel_rfl
    case r04w1 => kernel_rfl
    case w04w1 => rfl
    case y04w1 => (intro u hu; (go_simp) <;> with_reducible rfl)
    try simp only [Act.put, List.setIfInBounds_toArray, List.set_cons_zero, List.set_cons_succ]
    refine wpAnyH_take (i := 1) (oi := ?o14w2) (v := ?v14w2) ?h14w2 (by kernel_rfl) ?f14w2 ?r14w2 (fun _ _ _ h => h) (Or.inl ⟨?w14w2, ?y14w2⟩) (by assumption) ?t14w2
    case h14w2 => simp only [List.getElem?_toArray]; rfl
    case f14w2 => kernel_rfl
    case r14w2 => kernel_rfl
    case w14w2 => rfl
    case y14w2 => (intro u hu; (go_simp) <;> with_reducible rfl)
    try simp only [Act.put, List.setIfInBounds_toArray, List.set_cons_zero, List.set_cons_succ]
    refine wpAnyH_ready (rs := [2, 4]) (by kernel_rfl) (by simp) ?_
    refine AllReadyH.cons (o := ?o24w3) ?h24w3 (fun K hK => ?c24w3) (AllReadyH.cons (o := ?o44w3) ?h44w3 (fun K hK => ?c44w3) AllReadyH.nil)
    case h24w3 => simp only [List.getElem?_toArray]; rfl
    case h44w3 => simp only [List.getElem?_toArray]; rfl
    case c24w3 =>
      go_simp
      refine (invert_e z19 hz19 _).mono ?_
      rintro e y4w4 ⟨z28, rfl, hz28, Hz28, hb4w4⟩
      refine hK.out _ _ (hH.trans hb4w4) (fun hH' => ?_)
      clear hK K hH
      have hH := hH'
      clear hH'
      try simp only [List.setIfInBounds_toArray, List.set]
      clear hb4w4
      refine wpAnyH_ready (rs := [3, 4]) (by kernel_rfl) (by simp) ?_
      refine AllReadyH.cons (o := ?o34w5) ?h34w5 (fun K hK => ?c34w5) (AllReadyH.cons (o := ?o44w5) ?h44w5 (fun K hK => ?c44w5) AllReadyH.nil)
      case h34w5 => simp only [List.getElem?_toArray]; rfl
      case h44w5 => simp only [List.getElem?_toArray]; rfl
      case c34w5 =>
        go_simp
        refine (mul_e z19 z28 hz19 hz28 _).mono ?_
        rintro e y4w6 ⟨z29, rfl, hz29, Hz29, hb4w6⟩
        refine hK.out _ _ (hH.trans hb4w6) (fun hH' => ?_)
        clear hK K hH
        have hH := hH'
        clear hH'
        try simp only [List.setIfInBounds_toArray, List.set]
        clear hb4w6
        refine wpAnyH_ready (rs := [4]) (by kernel_rfl) (by simp) ?_
        refine AllReadyH.cons (o := ?o44w7) ?h44w7 (fun K hK => ?_) AllReadyH.nil
        case h44w7 => simp only [List.getElem?_toArray]; rfl
        go_simp
        have hL14 : W13.heap.size ≤ y4w6.heap.size := hH.size
        refine hK.out _ _ (hH.trans (bel1 _ _)) (fun hH' => ?_)
        clear hK K hH
        have hH := hH'
        clear hH'
        try simp only [List.setIfInBounds_toArray, List.set]
        have O14w : Hid (Own (y4w6.alloc (.cells #[.int .u64 0, .int .u64 0, .int .u64 0, .int .u64 0] 28)) y4w6.heap.size) := own_new y4w6 _ _ _ _ _
        generalize y4w6.alloc (.cells #[.int .u64 0, .int .u64 0, .int .u64 0, .int .u64 0] 28) = x4w7 at *
        generalize y4w6.heap.size = b14w at *
        have hg14 : W13.heap.size ≤ b14w := hL14
        obtain ⟨⟨_, nc0⟩, ⟨_, nc1⟩, ⟨_, nc2⟩, ⟨_, nc3⟩, nf0, nf1, nf2, nf3⟩ := O14w.out
        refine wpAnyH_ready (rs := [5]) (by kernel_rfl) (by simp) ?_
        refine AllReadyH.cons (o := ?o54w8) ?h54w8 (fun K hK => ?_) AllReadyH.nil
        case h54w8 => simp only [List.getElem?_toArray]; rfl
        go_simp
        refine hK.out _ _ (hH.set4 _ (by omega) _ _ _ _) (fun hH' => ?_)
        clear hK K hH
        have hH := hH'
        clear hH'
        try simp only [List.setIfInBounds_toArray, List.set]
        have V14w : Hid (Var ((((x4w7.setCell ⟨b14w, 0, none⟩ (.int .u64 (e0 z29))).setCell ⟨b14w, 1, none⟩ (.int .u64 (e1 z29))).setCell ⟨b14w, 2, none⟩ (.int .u64 (e2 z29))).setCell ⟨b14w, 3, none⟩ (.int .u64 (e3 z29))) b14w z29) := var_set x4w7 b14w z29 O14w.out
        clear O14w nc0 nc1 nc2 nc3 nf0 nf1 nf2 nf3
        generalize (((x4w7.setCell ⟨b14w, 0, none⟩ (.int .u64 (e0 z29))).setCell ⟨b14w, 1, none⟩ (.int .u64 (e1 z29))).setCell ⟨b14w, 2, none⟩ (.int .u64 (e2 z29))).setCell ⟨b14w, 3, none⟩ (.int .u64 (e3 z29)) = x4w8 at *
        refine wpAnyH_done (by kernel_rfl) ?_ _
        refine NoPanic.normal ?_
        go_wp2_with fail
        go_meet
        case rel => exact ⟨_, _, rfl, hz29, (by unfold Hid; rw [Hz29.out, Hz28.out]), V14w, hg14, hH⟩
      case c44w5 =>
        go_simp
        have hL14 : W13.heap.size ≤ y4w4.heap.size := hH.size
        refine hK.out _ _ (hH.trans (bel1 _ _)) (fun hH' => ?_)
        clear hK K hH
        have hH := hH'
        clear hH'
        try simp only [List.setIfInBounds_toArray, List.set]
        have O14w : Hid (Own (y4w4.alloc (.cells #[.int .u64 0, .int .u64 0, .int .u64 0, .int .u64 0] 28)) y4w4.heap.size) := own_new y4w4 _ _ _ _ _
        generalize y4w4.alloc (.cells #[.int .u64 0, .int .u64 0, .int .u64 0, .int .u64 0] 28) = x4w9 at *
        generalize y4w4.heap.size = b14w at *
        have hg14 : W13.heap.size ≤ b14w := hL14
        refine wpAnyH_ready (rs := [3]) (by kernel_rfl) (by simp) ?_
        refine AllReadyH.cons (o := ?o34w10) ?h34w10 (fun K hK => ?_) AllReadyH.nil
        case h34w10 => simp only [List.getElem?_toArray]; rfl
        go_simp
        refine (mul_e z19 z28 hz19 hz28 _).mono ?_
        rintro e y4w10 ⟨z29, rfl, hz29, Hz29, hb4w10⟩
        refine hK.out _ _ (hH.trans hb4w10) (fun hH' => ?_)
        clear hK K hH
        have hH := hH'
        clear hH'
        try simp only [List.setIfInBounds_toArray, List.set]
        replace O14w : Hid (Own y4w10 b14w) := O14w.out.later hb4w10
        clear hb4w10
        obtain ⟨⟨_, nc0⟩, ⟨_, nc1⟩, ⟨_, nc2⟩, ⟨_, nc3⟩, nf0, nf1, nf2, nf3⟩ := O14w.out
        refine wpAnyH_ready (rs := [5]) (by kernel_rfl) (by simp) ?_
        refine AllReadyH.cons (o := ?o54w11) ?h54w11 (fun K hK => ?_) AllReadyH.nil
        case h54w11 => simp only [List.getElem?_toArray]; rfl
        go_simp
        refine hK.out _ _ (hH.set4 _ (by omega) _ _ _ _) (fun hH' => ?_)
        clear hK K hH
        have hH := hH'
        clear hH'
        try simp only [List.setIfInBounds_toArray, List.set]
        have V14w : Hid (Var ((((y4w10.setCell ⟨b14w, 0, none⟩ (.int .u64 (e0 z29))).setCell ⟨b14w, 1, none⟩ (.int .u64 (e1 z29))).setCell ⟨b14w, 2, none⟩ (.int .u64 (e2 z29))).setCell ⟨b14w, 3, none⟩ (.int .u64 (e3 z29))) b14w z29) := var_set y4w10 b14w z29 O14w.out
        clear O14w nc0 nc1 nc2 nc3 nf0 nf1 nf2 nf3
        generalize (((y4w10.setCell ⟨b14w, 0, none⟩ (.int .u64 (e0 z29))).setCell ⟨b14w, 1, none⟩ (.int .u64 (e1 z29))).setCell ⟨b14w, 2, none⟩ (.int .u64 (e2 z29))).setCell ⟨b14w, 3, none⟩ (.int .u64 (e3 z29)) = x4w11 at *
        refine wpAnyH_done (by kernel_rfl) ?_ _
        refine NoPanic.normal ?_
        go_wp2_with fail
        go_meet
        case rel => exact ⟨_, _, rfl, hz29, (by unfold Hid; rw [Hz29.out, Hz28.out]), V14w, hg14, hH⟩
    case c44w3 =>
      go_simp
      have hL14 : W13.heap.size ≤ y0.heap.size := hH.size
      refine hK.out _ _ (hH.trans (bel1 _ _)) (fun hH' => ?_)
      clear hK K hH
      have hH := hH'
      clear hH'
      try simp only [List.setIfInBounds_toArray, List.set]
      have O14w : Hid (Own (y0.alloc (.cells #[.int .u64 0, .int .u64 0, .int .u64 0, .int .u64 0] 28)) y0.heap.size) := own_new y0 _ _ _ _ _
      generalize y0.alloc (.cells #[.int .u64 0, .int .u64 0, .int .u64 0, .int .u64 0] 28) = x4w12 at *
      generalize y0.heap.size = b14w at *
      have hg14 : W13.heap.size ≤ b14w := hL14
      refine wpAnyH_ready (rs := [2]) (by kernel_rfl) (by simp) ?_
      refine AllReadyH.cons (o := ?o24w13) ?h24w13 (fun K hK => ?_) AllReadyH.nil
      case h24w13 => simp only [List.getElem?_toArray]; rfl
      go_simp
      refine (invert_e z19 hz19 _).mono ?_
      rintro e y4w13 ⟨z28, rfl, hz28, Hz28, hb4w13⟩
      refine hK.out _ _ (hH.trans hb4w13) (fun hH' => ?_)
      clear hK K hH
      have hH := hH'
      clear hH'
      try simp only [List.setIfInBounds_toArray, List.set]
      replace O14w : Hid (Own y4w13 b14w) := O14w.out.later hb4w13
      clear hb4w13
      refine wpAnyH_ready (rs := [3]) (by kernel_rfl) (by simp) ?_
      refine AllReadyH.cons (o := ?o34w14) ?h34w14 (fun K hK => ?_) AllReadyH.nil
      case h34w14 => simp only [List.getElem?_toArray]; rfl
      go_simp
      refine (mul_e z19 z28 hz19 hz28 _).mono ?_
      rintro e y4w14 ⟨z29, rfl, hz29, Hz29, hb4w14⟩
      refine hK.out _ _ (hH.trans hb4w14) (fun hH' => ?_)
      clear hK K hH
      have hH := hH'
      clear hH'
      try simp only [List.setIfInBounds_toArray, List.set]
      replace O14w : Hid (Own y4w14 b14w) := O14w.out.later hb4w14
      clear hb4w14
      obtain ⟨⟨_, nc0⟩, ⟨_, nc1⟩, ⟨_, nc2⟩, ⟨_, nc3⟩, nf0, nf1, nf2, nf3⟩ := O14w.out
      refine wpAnyH_ready (rs := [5]) (by kernel_rfl) (by simp) ?_
      refine AllReadyH.cons (o := ?o54w15) ?h54w15 (fun K hK => ?_) AllReadyH.nil
      case h54w15 => simp only [List.getElem?_toArray]; rfl
      go_simp
      refine hK.out _ _ (hH.set4 _ (by omega) _ _ _ _) (fun hH' => ?_)
      clear hK K hH
      have hH := hH'
      clear hH'
      try simp only [List.setIfInBounds_toArray, List.set]
      have V14w : Hid (Var ((((y4w14.setCell ⟨b14w, 0, none⟩ (.int .u64 (e0 z29))).setCell ⟨b14w, 1, none⟩ (.int .u64 (e1 z29))).setCell ⟨b14w, 2, none⟩ (.int .u64 (e2 z29))).setCell ⟨b14w, 3, none⟩ (.int .u64 (e3 z29))) b14w z29) := var_set y4w14 b14w z29 O14w.out
      clear O14w nc0 nc1 nc2 nc3 nf0 nf1 nf2 nf3
      generalize (((y4w14.setCell ⟨b14w, 0, none⟩ (.int .u64 (e0 z29))).setCell ⟨b14w, 1, none⟩ (.int .u64 (e1 z29))).setCell ⟨b14w, 2, none⟩ (.int .u64 (e2 z29))).setCell ⟨b14w, 3, none⟩ (.int .u64 (e3 z29)) = x4w15 at *
      refine wpAnyH_done (by kernel_rfl) ?_ _
      refine NoPanic.normal ?_
      go_wp2_with fail
      go_meet
      case rel => exact ⟨_, _, rfl, hz29, (by unfold Hid; rw [Hz29.out, Hz28.out]), V14w, hg14, hH⟩
  obtain ⟨b14, v14, rfl, hv14, Hv14, V14, hge14, hX⟩ := hcut
  generalize wc = W14 at *
  replace V11 : Hid (Var W14 b11 z19) := V11.out.later hX.out
  replace V12 : Hid (Var W14 b12 z23) := V12.out.later hX.out
  replace V13 : Hid (Var W14 b13 z25) := V13.out.later hX.out
  replace A5 : Hid (Arr W14 (w.heap.size) (List.map (Value.int .u8) a)) := A5.out.later hX.out
  replace A6 : Hid (Arr W14 q1 (List.map (Value.int .u8) b)) := A6.out.later hX.out
  replace A7 : Hid (Arr W14 q2 (List.map (Value.int .u8) c)) := A7.out.later hX.out
  replace HB : Hid (Below w.heap.size w W14) := HB.out.trans (Below.mono hX.out HB.out.size)
  clear hX
  go_upto_region 5 with fail
  by_cases hx0 : z19 = 0
  · have HX0 : Hid (z19 = 0) := hx0
    clear hx0
    obtain ⟨V11c0, V11c1, V11c2, V11c3⟩ := V11.out
    have V11u0 : ∀ u, Ext W14 u → u.cell? ⟨b11, 0, none⟩ = some (.int .u64 (e0 z19)) := fun u hu => hu.cell V11c0
    have V11u1 : ∀ u, Ext W14 u → u.cell? ⟨b11, 1, none⟩ = some (.int .u64 (e1 z19)) := fun u hu => hu.cell V11c1
    have V11u2 : ∀ u, Ext W14 u → u.cell? ⟨b11, 2, none⟩ = some (.int .u64 (e2 z19)) := fun u hu => hu.cell V11c2
    have V11u3 : ∀ u, Ext W14 u → u.cell? ⟨b11, 3, none⟩ = some (.int .u64 (e3 z19)) := fun u hu => hu.cell V11c3
    clear V11c0 V11c1 V11c2 V11c3
    refine wp_region_noPanic ?_
    refine wp_region_held_drew (S := Ext W14) (by kernel_rfl) (Ext.refl _).drew (fun hH => ?_)
    change wpAnyH _ _ _ _ _ _ #[false, false, false, false] _ _
    refine wpAnyH_take (i := 0) (oi := ?o0r5p) (v := ?v0r5p) ?h0r5p (by kernel_rfl) ?f0r5p ?r0r5p (fun _ _ _ h => h) (Or.inl ⟨?w0r5p, ?y0r5p⟩) (by assumption) ?t0r5p
    case h0r5p => simp only [List.getElem?_toArray]; rfl
    case f0r5p => kernel_rfl
    case r0r5p => kernel_rfl
    case w0r5p => rfl
    case y0r5p => (intro u hu; (go_simp) <;> with_reducible rfl)
    try simp only [Act.put, List.setIfInBounds_toArray, List.set_cons_zero, List.set_cons_succ]
    refine wpAnyH_ready (rs := [1]) (by kernel_rfl) (by simp) ?_
    refine AllReadyH.cons (o := ?o1r5p) ?h1r5p (fun K hK => ?_) AllReadyH.nil
    case h1r5p => simp only [List.getElem?_toArray]; rfl
    go_simp
    refine (zero_e _).mono ?_
    rintro e c5p_1 ⟨rfl, hb5_1⟩
    refine hK.out _ _ (hH.trans hb5_1) (fun hH' => ?_)
    clear hK K hH
    have hH := hH'
    clear hH'
    try simp only [List.setIfInBounds_toArray, List.set]
    clear hb5_1
    refine wpAnyH_ready (rs := [2]) (by kernel_rfl) (by simp) ?_
    refine AllReadyH.cons (o := ?o2r5p) ?h2r5p (fun K hK => ?_) AllReadyH.nil
    case h2r5p => simp only [List.getElem?_toArray]; rfl
    go_simp
    refine (equal_e z19 0 hz19 El.zero _).mono ?_
    rintro e c5p_2 ⟨rfl, hb5_2⟩
    rw [show same z19 0 = true from same_t HX0.out]
    refine hK.out _ _ (hH.trans hb5_2) (fun hH' => ?_)
    clear hK K hH
    have hH := hH'
    clear hH'
    try simp only [List.setIfInBounds_toArray, List.set]
    clear hb5_2
    refine wpAnyH_take (i := 3) (oi := ?o3r5p) (v := ?v3r5p) ?h3r5p (by kernel_rfl) ?f3r5p ?r3r5p (fun _ _ _ h => h) (Or.inl ⟨?w3r5p, ?y3r5p⟩) (by assumption) ?t3r5p
    case h3r5p => simp only [List.getElem?_toArray]; rfl
    case f3r5p => kernel_rfl
    case r3r5p => kernel_rfl
    case w3r5p => rfl
    case y3r5p => (intro u hu; (go_simp) <;> with_reducible rfl)
    try simp only [Act.put, List.setIfInBounds_toArray, List.set_cons_zero, List.set_cons_succ]
    refine wpAnyH_done (by kernel_rfl) ?_ _
    refine NoPanic.normal ?_
    go_upto_region 6 with fail
    replace V11 : Hid (Var c5p_2 b11 z19) := V11.out.later hH
    replace V12 : Hid (Var c5p_2 b12 z23) := V12.out.later hH
    replace V13 : Hid (Var c5p_2 b13 z25) := V13.out.later hH
    replace V14 : Hid (Var c5p_2 b14 v14) := V14.out.later hH
    replace A5 : Hid (Arr c5p_2 (w.heap.size) (List.map (Value.int .u8) a)) := A5.out.later hH
    replace A6 : Hid (Arr c5p_2 q1 (List.map (Value.int .u8) b)) := A6.out.later hH
    replace A7 : Hid (Arr c5p_2 q2 (List.map (Value.int .u8) c)) := A7.out.later hH
    replace HB : Hid (Below w.heap.size w c5p_2) := HB.out.trans (Below.mono hH HB.out.size)
    clear hH
    refine wp_region_noPanic ?_
    refine wp_region_held_drew (S := Ext c5p_2) (by kernel_rfl) (Ext.refl _).drew (fun hH => ?_)
    change wpAnyH _ _ ops6 _ _ 101 #[false, false, false, false, false, false, false, false, false, false, false, false, false, false, false, false, false, false, false, false, false, false, false, false, false, false, false, false, false, false, false, false, false, false, false, false, false, false, false, false, false, false, false, false, false, false, false, false, false, false, false, false, false, false, false, false, false, false, false, false, false, false, false, false, false, false, false, false, false, false, false, false, false, false, false, false, false, false, false, false, false, false, false, false, false, false, false, false, false, false, false, false, false, false, false, false, false, false, false, false, false] _ _
    refine laws_s0 c5p_2 z19 z23 z25 v14 hz19 hz23 hz25 hv14 _ _ _ _ V11 V12 V13 V14 _ _ _ _ _ _ _ _ _ _ _ _ _ _ _ _ _ _ _ _ _ _ _ _ _ _ _ _ _ _ _ _ _ _ _ _ _ _ _ _ _ _ _ _ _ _ _ _ _ _ _ _ _ _ _ _ _ _ _ _ _ _ _ _ _ _ _ _ _ _ _ _ _ _ _ _ _ _ _ _ _ _ _ _ _ _ _ _ _ _ _ _ _ _ _ _ _ _ _ _ _ _ _ _ _ _ _ _ _ _ _ _ _ _ _ _ _ _ _ _ _ _ _ _ _ _ _ _ _ _ _ hH ?_
    clear hH
    intro _ _ _ _ _ _ _ _ _ _ w0x hH
    refine laws_s1 c5p_2 z19 z23 z25 v14 hz19 hz23 hz25 hv14 _ _ _ _ V11 V12 V13 V14 _ _ _ _ _ _ _ _ _ _ _ _ _ _ _ _ _ _ _ _ _ _ _ _ _ _ _ _ _ _ _ _ _ _ _ _ _ _ _ _ _ _ _ _ _ _ _ _ _ _ _ _ _ _ _ _ _ _ _ _ _ _ _ _ _ _ _ _ _ _ _ _ _ _ _ _ _ _ _ _ _ _ _ _ _ _ _ _ _ _ _ _ _ _ _ _ _ _ _ _ _ _ _ _ _ _ _ _ _ _ _ _ _ _ _ _ _ _ _ _ _ _ _ _ _ _ _ _ _ _ hH ?_
    clear hH
    intro _ _ _ _ _ _ _ _ w1x hH
    refine laws_s2 c5p_2 z19 z23 z25 v14 hz19 hz23 hz25 hv14 _ _ _ _ V11 V12 V13 V14 _ _ _ _ _ _ _ _ _ _ _ _ _ _ _ _ _ _ _ _ _ _ _ _ _ _ _ _ _ _ _ _ _ _ _ _ _ _ _ _ _ _ _ _ _ _ _ _ _ _ _ _ _ _ _ _ _ _ _ _ _ _ _ _ _ _ _ _ _ _ _ _ _ _ _ _ _ _ _ _ _ _ _ _ _ _ _ _ _ _ _ _ _ _ _ _ _ _ _ _ _ _ _ _ _ _ _ _ _ _ _ _ _ _ _ _ _ _ _ _ _ _ _ _ _ _ _ _ _ _ hH ?_
    clear hH
    intro _ _ _ _ _ _ _ _ _ _ _ _ w2x hH
    refine laws_s3 c5p_2 z19 z23 z25 v14 hz19 hz23 hz25 hv14 _ _ _ _ V11 V12 V13 V14 _ _ _ _ _ _ _ _ _ _ _ _ _ _ _ _ _ _ _ _ _ _ _ _ _ _ _ _ _ _ _ _ _ _ _ _ _ _ _ _ _ _ _ _ _ _ _ _ _ _ _ _ _ _ _ _ _ _ _ _ _ _ _ _ _ _ _ _ _ _ _ _ _ _ _ _ _ _ _ _ _ _ _ _ _ _ _ _ _ _ _ _ _ _ _ _ _ _ _ _ _ _ _ _ _ _ _ _ _ _ _ _ _ _ _ _ _ _ _ _ _ _ _ _ _ _ _ _ _ _ hH ?_
    clear hH
    intro _ _ _ _ _ _ _ _ _ _ _ _ w3x hH
    refine laws_s4 c5p_2 z19 z23 z25 v14 hz19 hz23 hz25 hv14 _ _ _ _ V11 V12 V13 V14 _ _ _ _ _ _ _ _ _ _ _ _ _ _ _ _ _ _ _ _ _ _ _ _ _ _ _ _ _ _ _ _ _ _ _ _ _ _ _ _ _ _ _ _ _ _ _ _ _ _ _ _ _ _ _ _ _ _ _ _ _ _ _ _ _ _ _ _ _ _ _ _ _ _ _ _ _ _ _ _ _ _ _ _ _ _ _ _ _ _ _ _ _ _ _ _ _ _ _ _ _ _ _ _ _ _ _ _ _ _ _ _ _ _ _ _ _ _ _ _ _ _ _ _ _ _ _ _ _ _ hH ?_
    clear hH
    intro _ _ _ _ _ _ _ _ _ _ _ _ _ _ w4x hH
    refine laws_s5 c5p_2 z19 z23 z25 v14 hz19 hz23 hz25 hv14 _ _ _ _ V11 V12 V13 V14 _ _ _ _ _ _ _ _ _ _ _ _ _ _ _ _ _ _ _ _ _ _ _ _ _ _ _ _ _ _ _ _ _ _ _ _ _ _ _ _ _ _ _ _ _ _ _ _ _ _ _ _ _ _ _ _ _ _ _ _ _ _ _ _ _ _ _ _ _ _ _ _ _ _ _ _ _ _ _ _ _ _ _ _ _ _ _ _ _ _ _ _ _ _ _ _ _ _ _ _ _ _ _ _ _ _ _ _ _ _ _ _ _ _ _ _ _ _ _ _ _ _ _ _ _ _ _ _ _ _ hH ?_
    clear hH
    intro _ _ _ _ _ _ _ _ w5x hH
    refine laws_s6 c5p_2 z19 z23 z25 v14 hz19 hz23 hz25 hv14 _ _ _ _ V11 V12 V13 V14 _ _ _ _ _ _ _ _ _ _ _ _ _ _ _ _ _ _ _ _ _ _ _ _ _ _ _ _ _ _ _ _ _ _ _ _ _ _ _ _ _ _ _ _ _ _ _ _ _ _ _ _ _ _ _ _ _ _ _ _ _ _ _ _ _ _ _ _ _ _ _ _ _ _ _ _ _ _ _ _ _ _ _ _ _ _ _ _ _ _ _ _ _ _ _ _ _ _ _ _ _ _ _ _ _ _ _ _ _ _ _ _ _ _ _ _ _ _ _ _ _ _ _ _ _ _ _ _ _ _ hH ?_
    clear hH
    intro _ _ _ _ _ _ w6x hH
    refine laws_s7 c5p_2 z19 z23 z25 v14 hz19 hz23 hz25 hv14 _ _ _ _ V11 V12 V13 V14 _ _ _ _ _ _ _ _ _ _ _ _ _ _ _ _ _ _ _ _ _ _ _ _ _ _ _ _ _ _ _ _ _ _ _ _ _ _ _ _ _ _ _ _ _ _ _ _ _ _ _ _ _ _ _ _ _ _ _ _ _ _ _ _ _ _ _ _ _ _ _ _ _ _ _ _ _ _ _ _ _ _ _ _ _ _ _ _ _ _ _ _ _ _ _ _ _ _ _ _ _ _ _ _ _ _ _ _ _ _ _ _ _ _ _ _ _ _ _ _ _ _ _ _ _ _ _ _ _ _ hH ?_
    clear hH
    intro _ _ _ _ _ _ w7x hH
    refine laws_s8z c5p_2 z19 z23 z25 v14 hz19 hz23 hz25 hv14 Hv14 HX0 _ _ _ _ V11 V12 V13 V14 _ _ _ _ _ _ _ _ _ _ _ _ _ _ _ _ _ _ _ _ _ _ _ _ _ _ _ _ _ _ _ _ _ _ _ _ _ _ _ _ _ _ _ _ _ _ _ _ _ _ _ _ _ _ _ _ _ _ _ _ _ _ _ _ _ _ _ _ _ _ _ _ _ _ _ _ _ _ _ _ _ _ _ _ _ _ _ _ _ _ _ _ _ _ _ _ _ _ _ _ _ _ _ _ _ _ _ _ _ _ _ _ _ _ _ _ _ _ _ _ _ _ _ _ _ _ _ _ _ hH ?_
    clear hH
    intro _ _ _ _ _ _ _ _ _ _ _ _ _ _ _ _ w8x hH
    refine wpAnyH_done (by kernel_rfl) ?_ _
    refine NoPanic.normal ?_
    go_wp2
    go_ret
    exact ⟨rfl, HB.out.trans (Below.mono hH HB.out.size)⟩
  · have HX0 : Hid (z19 ≠ 0) := hx0
    clear hx0
    obtain ⟨V11c0, V11c1, V11c2, V11c3⟩ := V11.out
    have V11u0 : ∀ u, Ext W14 u → u.cell? ⟨b11, 0, none⟩ = some (.int .u64 (e0 z19)) := fun u hu => hu.cell V11c0
    have V11u1 : ∀ u, Ext W14 u → u.cell? ⟨b11, 1, none⟩ = some (.int .u64 (e1 z19)) := fun u hu => hu.cell V11c1
    have V11u2 : ∀ u, Ext W14 u → u.cell? ⟨b11, 2, none⟩ = some (.int .u64 (e2 z19)) := fun u hu => hu.cell V11c2
    have V11u3 : ∀ u, Ext W14 u → u.cell? ⟨b11, 3, none⟩ = some (.int .u64 (e3 z19)) := fun u hu => hu.cell V11c3
    clear V11c0 V11c1 V11c2 V11c3
    refine wp_region_noPanic ?_
    refine wp_region_held_drew (S := Ext W14) (by kernel_rfl) (Ext.refl _).drew (fun hH => ?_)
    change wpAnyH _ _ _ _ _ _ #[false, false, false, false] _ _
    refine wpAnyH_take (i := 0) (oi := ?o0r5q) (v := ?v0r5q) ?h0r5q (by kernel_rfl) ?f0r5q ?r0r5q (fun _ _ _ h => h) (Or.inl ⟨?w0r5q, ?y0r5q⟩) (by assumption) ?t0r5q
    case h0r5q => simp only [List.getElem?_toArray]; rfl
    case f0r5q => kernel_rfl
    case r0r5q => kernel_rfl
    case w0r5q => rfl
    case y0r5q => (intro u hu; (go_simp) <;> with_reducible rfl)
    try simp only [Act.put, List.setIfInBounds_toArray, List.set_cons_zero, List.set_cons_succ]
    refine wpAnyH_ready (rs := [1]) (by kernel_rfl) (by simp) ?_
    refine AllReadyH.cons (o := ?o1r5q) ?h1r5q (fun K hK => ?_) AllReadyH.nil
    case h1r5q => simp only [List.getElem?_toArray]; rfl
    go_simp
    refine (zero_e _).mono ?_
    rintro e c5q_1 ⟨rfl, hb5_1⟩
    refine hK.out _ _ (hH.trans hb5_1) (fun hH' => ?_)
    clear hK K hH
    have hH := hH'
    clear hH'
    try simp only [List.setIfInBounds_toArray, List.set]
    clear hb5_1
    refine wpAnyH_ready (rs := [2]) (by kernel_rfl) (by simp) ?_
    refine AllReadyH.cons (o := ?o2r5q) ?h2r5q (fun K hK => ?_) AllReadyH.nil
    case h2r5q => simp only [List.getElem?_toArray]; rfl
    go_simp
    refine (equal_e z19 0 hz19 El.zero _).mono ?_
    rintro e c5q_2 ⟨rfl, hb5_2⟩
    rw [show same z19 0 = false from same_f HX0.out]
    refine hK.out _ _ (hH.trans hb5_2) (fun hH' => ?_)
    clear hK K hH
    have hH := hH'
    clear hH'
    try simp only [List.setIfInBounds_toArray, List.set]
    clear hb5_2
    refine wpAnyH_take (i := 3) (oi := ?o3r5q) (v := ?v3r5q) ?h3r5q (by kernel_rfl) ?f3r5q ?r3r5q (fun _ _ _ h => h) (Or.inl ⟨?w3r5q, ?y3r5q⟩) (by assumption) ?t3r5q
    case h3r5q => simp only [List.getElem?_toArray]; rfl
    case f3r5q => kernel_rfl
    case r3r5q => kernel_rfl
    case w3r5q => rfl
    case y3r5q => (intro u hu; (go_simp) <;> with_reducible rfl)
    try simp only [Act.put, List.setIfInBounds_toArray, List.set_cons_zero, List.set_cons_succ]
    refine wpAnyH_done (by kernel_rfl) ?_ _
    refine NoPanic.normal ?_
    go_upto_region 6 with fail
    replace V11 : Hid (Var c5q_2 b11 z19) := V11.out.later hH
    replace V12 : Hid (Var c5q_2 b12 z23) := V12.out.later hH
    replace V13 : Hid (Var c5q_2 b13 z25) := V13.out.later hH
    replace V14 : Hid (Var c5q_2 b14 v14) := V14.out.later hH
    replace A5 : Hid (Arr c5q_2 (w.heap.size) (List.map (Value.int .u8) a)) := A5.out.later hH
    replace A6 : Hid (Arr c5q_2 q1 (List.map (Value.int .u8) b)) := A6.out.later hH
    replace A7 : Hid (Arr c5q_2 q2 (List.map (Value.int .u8) c)) := A7.out.later hH
    replace HB : Hid (Below w.heap.size w c5q_2) := HB.out.trans (Below.mono hH HB.out.size)
    clear hH
    refine wp_region_noPanic ?_
    refine wp_region_held_drew (S := Ext c5q_2) (by kernel_rfl) (Ext.refl _).drew (fun hH => ?_)
    change wpAnyH _ _ ops6 _ _ 101 #[false, false, false, false, false, false, false, false, false, false, false, false, false, false, false, false, false, false, false, false, false, false, false, false, false, false, false, false, false, false, false, false, false, false, false, false, false, false, false, false, false, false, false, false, false, false, false, false, false, false, false, false, false, false, false, false, false, false, false, false, false, false, false, false, false, false, false, false, false, false, false, false, false, false, false, false, false, false, false, false, false, false, false, false, false, false, false, false, false, false, false, false, false, false, false, false, false, false, false, false, false] _ _
    refine laws_s0 c5q_2 z19 z23 z25 v14 hz19 hz23 hz25 hv14 _ _ _ _ V11 V12 V13 V14 _ _ _ _ _ _ _ _ _ _ _ _ _ _ _ _ _ _ _ _ _ _ _ _ _ _ _ _ _ _ _ _ _ _ _ _ _ _ _ _ _ _ _ _ _ _ _ _ _ _ _ _ _ _ _ _ _ _ _ _ _ _ _ _ _ _ _ _ _ _ _ _ _ _ _ _ _ _ _ _ _ _ _ _ _ _ _ _ _ _ _ _ _ _ _ _ _ _ _ _ _ _ _ _ _ _ _ _ _ _ _ _ _ _ _ _ _ _ _ _ _ _ _ _ _ _ _ _ _ _ _ hH ?_
    clear hH
    intro _ _ _ _ _ _ _ _ _ _ w0x hH
    refine laws_s1 c5q_2 z19 z23 z25 v14 hz19 hz23 hz25 hv14 _ _ _ _ V11 V12 V13 V14 _ _ _ _ _ _ _ _ _ _ _ _ _ _ _ _ _ _ _ _ _ _ _ _ _ _ _ _ _ _ _ _ _ _ _ _ _ _ _ _ _ _ _ _ _ _ _ _ _ _ _ _ _ _ _ _ _ _ _ _ _ _ _ _ _ _ _ _ _ _ _ _ _ _ _ _ _ _ _ _ _ _ _ _ _ _ _ _ _ _ _ _ _ _ _ _ _ _ _ _ _ _ _ _ _ _ _ _ _ _ _ _ _ _ _ _ _ _ _ _ _ _ _ _ _ _ _ _ _ _ hH ?_
    clear hH
    intro _ _ _ _ _ _ _ _ w1x hH
    refine laws_s2 c5q_2 z19 z23 z25 v14 hz19 hz23 hz25 hv14 _ _ _ _ V11 V12 V13 V14 _ _ _ _ _ _ _ _ _ _ _ _ _ _ _ _ _ _ _ _ _ _ _ _ _ _ _ _ _ _ _ _ _ _ _ _ _ _ _ _ _ _ _ _ _ _ _ _ _ _ _ _ _ _ _ _ _ _ _ _ _ _ _ _ _ _ _ _ _ _ _ _ _ _ _ _ _ _ _ _ _ _ _ _ _ _ _ _ _ _ _ _ _ _ _ _ _ _ _ _ _ _ _ _ _ _ _ _ _ _ _ _ _ _ _ _ _ _ _ _ _ _ _ _ _ _ _ _ _ _ hH ?_
    clear hH
    intro _ _ _ _ _ _ _ _ _ _ _ _ w2x hH
    refine laws_s3 c5q_2 z19 z23 z25 v14 hz19 hz23 hz25 hv14 _ _ _ _ V11 V12 V13 V14 _ _ _ _ _ _ _ _ _ _ _ _ _ _ _ _ _ _ _ _ _ _ _ _ _ _ _ _ _ _ _ _ _ _ _ _ _ _ _ _ _ _ _ _ _ _ _ _ _ _ _ _ _ _ _ _ _ _ _ _ _ _ _ _ _ _ _ _ _ _ _ _ _ _ _ _ _ _ _ _ _ _ _ _ _ _ _ _ _ _ _ _ _ _ _ _ _ _ _ _ _ _ _ _ _ _ _ _ _ _ _ _ _ _ _ _ _ _ _ _ _ _ _ _ _ _ _ _ _ _ hH ?_
    clear hH
    intro _ _ _ _ _ _ _ _ _ _ _ _ w3x hH
    refine laws_s4 c5q_2 z19 z23 z25 v14 hz19 hz23 hz25 hv14 _ _ _ _ V11 V12 V13 V14 _ _ _ _ _ _ _ _ _ _ _ _ _ _ _ _ _ _ _ _ _ _ _ _ _ _ _ _ _ _ _ _ _ _ _ _ _ _ _ _ _ _ _ _ _ _ _ _ _ _ _ _ _ _ _ _ _ _ _ _ _ _ _ _ _ _ _ _ _ _ _ _ _ _ _ _ _ _ _ _ _ _ _ _ _ _ _ _ _ _ _ _ _ _ _ _ _ _ _ _ _ _ _ _ _ _ _ _ _ _ _ _ _ _ _ _ _ _ _ _ _ _ _ _ _ _ _ _ _ _ hH ?_
    clear hH
    intro _ _ _ _ _ _ _ _ _ _ _ _ _ _ w4x hH
    refine laws_s5 c5q_2 z19 z23 z25 v14 hz19 hz23 hz25 hv14 _ _ _ _ V11 V12 V13 V14 _ _ _ _ _ _ _ _ _ _ _ _ _ _ _ _ _ _ _ _ _ _ _ _ _ _ _ _ _ _ _ _ _ _ _ _ _ _ _ _ _ _ _ _ _ _ _ _ _ _ _ _ _ _ _ _ _ _ _ _ _ _ _ _ _ _ _ _ _ _ _ _ _ _ _ _ _ _ _ _ _ _ _ _ _ _ _ _ _ _ _ _ _ _ _ _ _ _ _ _ _ _ _ _ _ _ _ _ _ _ _ _ _ _ _ _ _ _ _ _ _ _ _ _ _ _ _ _ _ _ hH ?_
    clear hH
    intro _ _ _ _ _ _ _ _ w5x hH
    refine laws_s6 c5q_2 z19 z23 z25 v14 hz19 hz23 hz25 hv14 _ _ _ _ V11 V12 V13 V14 _ _ _ _ _ _ _ _ _ _ _ _ _ _ _ _ _ _ _ _ _ _ _ _ _ _ _ _ _ _ _ _ _ _ _ _ _ _ _ _ _ _ _ _ _ _ _ _ _ _ _ _ _ _ _ _ _ _ _ _ _ _ _ _ _ _ _ _ _ _ _ _ _ _ _ _ _ _ _ _ _ _ _ _ _ _ _ _ _ _ _ _ _ _ _ _ _ _ _ _ _ _ _ _ _ _ _ _ _ _ _ _ _ _ _ _ _ _ _ _ _ _ _ _ _ _ _ _ _ _ hH ?_
    clear hH
    intro _ _ _ _ _ _ w6x hH
    refine laws_s7 c5q_2 z19 z23 z25 v14 hz19 hz23 hz25 hv14 _ _ _ _ V11 V12 V13 V14 _ _ _ _ _ _ _ _ _ _ _ _ _ _ _ _ _ _ _ _ _ _ _ _ _ _ _ _ _ _ _ _ _ _ _ _ _ _ _ _ _ _ _ _ _ _ _ _ _ _ _ _ _ _ _ _ _ _ _ _ _ _ _ _ _ _ _ _ _ _ _ _ _ _ _ _ _ _ _ _ _ _ _ _ _ _ _ _ _ _ _ _ _ _ _ _ _ _ _ _ _ _ _ _ _ _ _ _ _ _ _ _ _ _ _ _ _ _ _ _ _ _ _ _ _ _ _ _ _ _ hH ?_
    clear hH
    intro _ _ _ _ _ _ w7x hH
    refine laws_s8n c5q_2 z19 z23 z25 v14 hz19 hz23 hz25 hv14 Hv14 HX0 _ _ _ _ V11 V12 V13 V14 _ _ _ _ _ _ _ _ _ _ _ _ _ _ _ _ _ _ _ _ _ _ _ _ _ _ _ _ _ _ _ _ _ _ _ _ _ _ _ _ _ _ _ _ _ _ _ _ _ _ _ _ _ _ _ _ _ _ _ _ _ _ _ _ _ _ _ _ _ _ _ _ _ _ _ _ _ _ _ _ _ _ _ _ _ _ _ _ _ _ _ _ _ _ _ _ _ _ _ _ _ _ _ _ _ _ _ _ _ _ _ _ _ _ _ _ _ _ _ _ _ _ _ _ _ _ _ _ _ hH ?_
    clear hH
    intro _ _ _ _ _ _ _ _ _ _ _ _ _ _ _ _ w8x hH
    refine wpAnyH_done (by kernel_rfl) ?_ _
    refine NoPanic.normal ?_
    go_wp2
    go_ret
    exact ⟨rfl, HB.out.trans (Below.mono hH HB.out.size)⟩
end Go.Proofs.Ytgnfbnjhmiggbaa
