/-
  The walk of FieldSwaps where the bit is odd. No statement of the seat is proved here.
-/
import Derived.Test.YtgnfbnjhmiggbaaFSwap
namespace Go.Proofs.Ytgnfbnjhmiggbaa
open Go.RowKit

set_option maxHeartbeats 16000000 in
theorem fieldSwaps_odd (a b : List Int) (n : Int) (ha : By a) (hb : By b) (hn : Wd n) (hp : Hid (n % 2 = 1)) (w : World) :
    Calls Try.prog 4 #[(.agg (List.map (Value.int .u8) a).toArray), (.agg (List.map (Value.int .u8) b).toArray), .int .u64 n] w fun e w' => e = .returned (.bool true) ∧ Below w.heap.size w w' := by
  have n0 := hn.1
  have n1 := hn.2
  go_enter Try.func4, Try.ntmps4
  go_upto_region 1 with fail
  have HB : Hid (Below w.heap.size w ((w.alloc (.cells (List.map (Value.int .u8) a).toArray 22)).alloc (.cells (List.map (Value.int .u8) b).toArray 22))) := bel2 _ _ _
  have A3 : Hid (Arr ((w.alloc (.cells (List.map (Value.int .u8) a).toArray 22)).alloc (.cells (List.map (Value.int .u8) b).toArray 22)) (w.heap.size) (List.map (Value.int .u8) a)) := by
    have := (arr_box w a ha).later (bel1 _ (.cells (List.map (Value.int .u8) b).toArray 22))
    simpa [Hid] using this
  have A4 : Hid (Arr ((w.alloc (.cells (List.map (Value.int .u8) a).toArray 22)).alloc (.cells (List.map (Value.int .u8) b).toArray 22)) (w.heap.size + 1) (List.map (Value.int .u8) b)) := by
    have := arr_box (w.alloc (.cells (List.map (Value.int .u8) a).toArray 22)) b hb
    simpa [Hid] using this
  generalize (w.alloc (.cells (List.map (Value.int .u8) a).toArray 22)).alloc (.cells (List.map (Value.int .u8) b).toArray 22) = W0 at *
  generalize w.heap.size + 1 = q1 at *
  have hA3 := A3.out.lt
  have hA4 := A4.out.lt
  have hW0 := HB.out.size
  go_cut [7, 8] from 9 (fun tv7 tv8 wc => ∃ (b7 : Nat) (v7 : Int) (b8 : Nat) (v8 : Int), tv7 = .pointer (some ⟨b7, 0, none⟩) ∧ El v7 ∧ Hid (v7 = num b) ∧ Hid (Var wc b7 v7) ∧ W0.heap.size ≤ b7 ∧ Hid (Own wc b7) ∧ tv8 = .pointer (some ⟨b8, 0, none⟩) ∧ El v8 ∧ Hid (v8 = num a) ∧ Hid (Var wc b8 v8) ∧ W0.heap.size ≤ b8 ∧ Hid (Own wc b8) ∧ b7 ≠ b8 ∧ Hid (Below W0.heap.size W0 wc))
  case first =>
    refine wp_region_noPanic ?_
    refine wp_region_held_drew (S := Ext W0) (by kernel_rfl) (Ext.refl _).drew (fun hH => ?_)
    change wpAnyH _ _ _ _ _ _ #[false, false, false, false, false, false, false, false, false, false, false, false, false] _ _
    have hWs : w.heap.size ≤ W0.heap.size := HB.out.size
    generalize W0.drew = y0 at *
    refine wpAnyH_take (i := 0) (oi := ?o01w1) (v := .agg (List.map (Value.int .u8) a).toArray) ?h01w1 (by kernel_rfl) ?f01w1 ?r01w1 (fun _ _ _ h => h) ?y01w1 (by assumption) ?t01w1
    case h01w1 => simp only [List.getElem?_toArray]; rfl
    case f01w1 => kernel_rfl
    case r01w1 => kernel_rfl
    case y01w1 => exact yieldsIf_load_mid (by rfl) 22 (.tmp 3) rfl (w.heap.size) 0 rfl (List.map (Value.int .u8) a) _ (fun u hu => range_later hu A3.out.rng) Try.underlying22 rfl (by_cells ha).2.2
    try simp only [Act.put, List.setIfInBounds_toArray, List.set_cons_zero, List.set_cons_succ]
    refine wpAnyH_take (i := 2) (oi := ?o21w2) (v := .agg (List.map (Value.int .u8) b).toArray) ?h21w2 (by kernel_rfl) ?f21w2 ?r21w2 (fun _ _ _ h => h) ?y21w2 (by assumption) ?t21w2
    case h21w2 => simp only [List.getElem?_toArray]; rfl
    case f21w2 => kernel_rfl
    case r21w2 => kernel_rfl
    case y21w2 => exact yieldsIf_load_mid (by rfl) 22 (.tmp 4) rfl q1 0 rfl (List.map (Value.int .u8) b) _ (fun u hu => range_later hu A4.out.rng) Try.underlying22 rfl (by_cells hb).2.2
    try simp only [Act.put, List.setIfInBounds_toArray, List.set_cons_zero, List.set_cons_succ]
    refine wpAnyH_take (i := 4) (oi := ?o41w3) (v := ?v41w3) ?h41w3 (by kernel_rfl) ?f41w3 ?r41w3 (fun _ _ _ h => h) (Or.inl ⟨?w41w3, ?y41w3⟩) (by assumption) ?t41w3
    case h41w3 => simp only [List.getElem?_toArray]; rfl
    case f41w3 => kernel_rfl
    case r41w3 => kernel_rfl
    case w41w3 => rfl
    case y41w3 => (intro u hu; (go_simp) <;> with_reducible rfl)
    try simp only [Act.put, List.setIfInBounds_toArray, List.set_cons_zero, List.set_cons_succ]
    refine wpAnyH_ready (rs := [1, 9, 10]) (by kernel_rfl) (by simp) ?_
    refine AllReadyH.cons (o := ?o11w4) ?h11w4 (fun K hK => ?c11w4) (AllReadyH.cons (o := ?o91w4) ?h91w4 (fun K hK => ?c91w4) (AllReadyH.cons (o := ?o101w4) ?h101w4 (fun K hK => ?c101w4) AllReadyH.nil))
    case h11w4 => simp only [List.getElem?_toArray]; rfl
    case h91w4 => simp only [List.getElem?_toArray]; rfl
    case h101w4 => simp only [List.getElem?_toArray]; rfl
    case c11w4 =>
      go_simp
      refine (from_e a ha _).mono ?_
      rintro e y1w5 ⟨z11, rfl, hz11, Hz11, hb1w5⟩
      refine hK.out _ _ (hH.trans hb1w5) (fun hH' => ?_)
      clear hK K hH
      have hH := hH'
      clear hH'
      try simp only [List.setIfInBounds_toArray, List.set]
      clear hb1w5
      refine wpAnyH_ready (rs := [3, 9, 10]) (by kernel_rfl) (by simp) ?_
      refine AllReadyH.cons (o := ?o31w6) ?h31w6 (fun K hK => ?c31w6) (AllReadyH.cons (o := ?o91w6) ?h91w6 (fun K hK => ?c91w6) (AllReadyH.cons (o := ?o101w6) ?h101w6 (fun K hK => ?c101w6) AllReadyH.nil))
      case h31w6 => simp only [List.getElem?_toArray]; rfl
      case h91w6 => simp only [List.getElem?_toArray]; rfl
      case h101w6 => simp only [List.getElem?_toArray]; rfl
      case c31w6 =>
        go_simp
        refine (from_e b hb _).mono ?_
        rintro e y1w7 ⟨z13, rfl, hz13, Hz13, hb1w7⟩
        refine hK.out _ _ (hH.trans hb1w7) (fun hH' => ?_)
        clear hK K hH
        have hH := hH'
        clear hH'
        try simp only [List.setIfInBounds_toArray, List.set]
        clear hb1w7
        refine wpAnyH_ready (rs := [5, 9, 10]) (by kernel_rfl) (by simp) ?_
        refine AllReadyH.cons (o := ?o51w8) ?h51w8 (fun K hK => ?c51w8) (AllReadyH.cons (o := ?o91w8) ?h91w8 (fun K hK => ?c91w8) (AllReadyH.cons (o := ?o101w8) ?h101w8 (fun K hK => ?c101w8) AllReadyH.nil))
        case h51w8 => simp only [List.getElem?_toArray]; rfl
        case h91w8 => simp only [List.getElem?_toArray]; rfl
        case h101w8 => simp only [List.getElem?_toArray]; rfl
        case c51w8 =>
          go_simp
          refine (swap_odd z11 z13 n hz11 hz13 hn hp.out _).mono ?_
          rintro e y1w9 ⟨rfl, hb1w9⟩
          refine hK.out _ _ (hH.trans hb1w9) (fun hH' => ?_)
          clear hK K hH
          have hH := hH'
          clear hH'
          try simp only [List.setIfInBounds_toArray, List.set]
          clear hb1w9
          refine wpAnyH_take (i := 6) (oi := ?o61w10) (v := ?v61w10) ?h61w10 (by kernel_rfl) ?f61w10 ?r61w10 (fun _ _ _ h => h) (Or.inl ⟨?w61w10, ?y61w10⟩) (by assumption) ?t61w10
          case h61w10 => simp only [List.getElem?_toArray]; rfl
          case f61w10 => kernel_rfl
          case r61w10 => kernel_rfl
          case w61w10 => rfl
          case y61w10 => (intro u hu; (go_simp) <;> with_reducible rfl)
          try simp only [Act.put, List.setIfInBounds_toArray, List.set_cons_zero, List.set_cons_succ]
          refine wpAnyH_take (i := 7) (oi := ?o71w11) (v := ?v71w11) ?h71w11 (by kernel_rfl) ?f71w11 ?r71w11 (fun _ _ _ h => h) (Or.inl ⟨?w71w11, ?y71w11⟩) (by assumption) ?t71w11
          case h71w11 => simp only [List.getElem?_toArray]; rfl
          case f71w11 => kernel_rfl
          case r71w11 => kernel_rfl
          case w71w11 => rfl
          case y71w11 => (intro u hu; (go_simp) <;> with_reducible rfl)
          try simp only [Act.put, List.setIfInBounds_toArray, List.set_cons_zero, List.set_cons_succ]
          refine wpAnyH_take (i := 8) (oi := ?o81w12) (v := ?v81w12) ?h81w12 (by kernel_rfl) ?f81w12 ?r81w12 (fun _ _ _ h => h) (Or.inl ⟨?w81w12, ?y81w12⟩) (by assumption) ?t81w12
          case h81w12 => simp only [List.getElem?_toArray]; rfl
          case f81w12 => kernel_rfl
          case r81w12 => kernel_rfl
          case w81w12 => rfl
          case y81w12 => (intro u hu; (go_simp) <;> with_reducible rfl)
          try simp only [Act.put, List.setIfInBounds_toArray, List.set_cons_zero, List.set_cons_succ]
          refine wpAnyH_ready (rs := [9, 10]) (by kernel_rfl) (by simp) ?_
          refine AllReadyH.cons (o := ?o91w13) ?h91w13 (fun K hK => ?c91w13) (AllReadyH.cons (o := ?o101w13) ?h101w13 (fun K hK => ?c101w13) AllReadyH.nil)
          case h91w13 => simp only [List.getElem?_toArray]; rfl
          case h101w13 => simp only [List.getElem?_toArray]; rfl
          case c91w13 =>
            go_simp
            have hL7 : W0.heap.size ≤ y1w9.heap.size := hH.size
            refine hK.out _ _ (hH.trans (bel1 _ _)) (fun hH' => ?_)
            clear hK K hH
            have hH := hH'
            clear hH'
            try simp only [List.setIfInBounds_toArray, List.set]
            have O7w : Hid (Own (y1w9.alloc (.cells #[.int .u64 0, .int .u64 0, .int .u64 0, .int .u64 0] 28)) y1w9.heap.size) := own_new y1w9 _ _ _ _ _
            generalize y1w9.alloc (.cells #[.int .u64 0, .int .u64 0, .int .u64 0, .int .u64 0] 28) = x1w14 at *
            generalize y1w9.heap.size = b7w at *
            have hg7 : W0.heap.size ≤ b7w := hL7
            refine wpAnyH_ready (rs := [10]) (by kernel_rfl) (by simp) ?_
            refine AllReadyH.cons (o := ?o101w15) ?h101w15 (fun K hK => ?_) AllReadyH.nil
            case h101w15 => simp only [List.getElem?_toArray]; rfl
            go_simp
            have hL8 : W0.heap.size ≤ x1w14.heap.size := hH.size
            have lt7_8 : b7w < x1w14.heap.size := O7w.out.lt
            refine hK.out _ _ (hH.trans (bel1 _ _)) (fun hH' => ?_)
            clear hK K hH
            have hH := hH'
            clear hH'
            try simp only [List.setIfInBounds_toArray, List.set]
            have O8w : Hid (Own (x1w14.alloc (.cells #[.int .u64 0, .int .u64 0, .int .u64 0, .int .u64 0] 28)) x1w14.heap.size) := own_new x1w14 _ _ _ _ _
            replace O7w : Hid (Own (x1w14.alloc (.cells #[.int .u64 0, .int .u64 0, .int .u64 0, .int .u64 0] 28)) b7w) := O7w.out.later (bel1 _ _)
            generalize x1w14.alloc (.cells #[.int .u64 0, .int .u64 0, .int .u64 0, .int .u64 0] 28) = x1w15 at *
            generalize x1w14.heap.size = b8w at *
            have hg8 : W0.heap.size ≤ b8w := hL8
            obtain ⟨⟨_, nc0⟩, ⟨_, nc1⟩, ⟨_, nc2⟩, ⟨_, nc3⟩, nf0, nf1, nf2, nf3⟩ := O7w.out
            refine wpAnyH_ready (rs := [11]) (by kernel_rfl) (by simp) ?_
            refine AllReadyH.cons (o := ?o111w16) ?h111w16 (fun K hK => ?_) AllReadyH.nil
            case h111w16 => simp only [List.getElem?_toArray]; rfl
            go_simp
            refine hK.out _ _ (hH.set4 _ (by omega) _ _ _ _) (fun hH' => ?_)
            clear hK K hH
            have hH := hH'
            clear hH'
            try simp only [List.setIfInBounds_toArray, List.set]
            have V7w : Hid (Var ((((x1w15.setCell ⟨b7w, 0, none⟩ (.int .u64 (e0 z13))).setCell ⟨b7w, 1, none⟩ (.int .u64 (e1 z13))).setCell ⟨b7w, 2, none⟩ (.int .u64 (e2 z13))).setCell ⟨b7w, 3, none⟩ (.int .u64 (e3 z13))) b7w z13) := var_set x1w15 b7w z13 O7w.out
            replace O8w : Hid (Own ((((x1w15.setCell ⟨b7w, 0, none⟩ (.int .u64 (e0 z13))).setCell ⟨b7w, 1, none⟩ (.int .u64 (e1 z13))).setCell ⟨b7w, 2, none⟩ (.int .u64 (e2 z13))).setCell ⟨b7w, 3, none⟩ (.int .u64 (e3 z13))) b8w) := own_other O8w.out (by omega) _ _ _ _
            replace O7w : Hid (Own ((((x1w15.setCell ⟨b7w, 0, none⟩ (.int .u64 (e0 z13))).setCell ⟨b7w, 1, none⟩ (.int .u64 (e1 z13))).setCell ⟨b7w, 2, none⟩ (.int .u64 (e2 z13))).setCell ⟨b7w, 3, none⟩ (.int .u64 (e3 z13))) b7w) := own_set O7w.out _ _ _ _
            clear nc0 nc1 nc2 nc3 nf0 nf1 nf2 nf3
            generalize (((x1w15.setCell ⟨b7w, 0, none⟩ (.int .u64 (e0 z13))).setCell ⟨b7w, 1, none⟩ (.int .u64 (e1 z13))).setCell ⟨b7w, 2, none⟩ (.int .u64 (e2 z13))).setCell ⟨b7w, 3, none⟩ (.int .u64 (e3 z13)) = x1w16 at *
            obtain ⟨⟨_, nc0⟩, ⟨_, nc1⟩, ⟨_, nc2⟩, ⟨_, nc3⟩, nf0, nf1, nf2, nf3⟩ := O8w.out
            refine wpAnyH_ready (rs := [12]) (by kernel_rfl) (by simp) ?_
            refine AllReadyH.cons (o := ?o121w17) ?h121w17 (fun K hK => ?_) AllReadyH.nil
            case h121w17 => simp only [List.getElem?_toArray]; rfl
            go_simp
            refine hK.out _ _ (hH.set4 _ (by omega) _ _ _ _) (fun hH' => ?_)
            clear hK K hH
            have hH := hH'
            clear hH'
            try simp only [List.setIfInBounds_toArray, List.set]
            have V8w : Hid (Var ((((x1w16.setCell ⟨b8w, 0, none⟩ (.int .u64 (e0 z11))).setCell ⟨b8w, 1, none⟩ (.int .u64 (e1 z11))).setCell ⟨b8w, 2, none⟩ (.int .u64 (e2 z11))).setCell ⟨b8w, 3, none⟩ (.int .u64 (e3 z11))) b8w z11) := var_set x1w16 b8w z11 O8w.out
            replace V7w : Hid (Var ((((x1w16.setCell ⟨b8w, 0, none⟩ (.int .u64 (e0 z11))).setCell ⟨b8w, 1, none⟩ (.int .u64 (e1 z11))).setCell ⟨b8w, 2, none⟩ (.int .u64 (e2 z11))).setCell ⟨b8w, 3, none⟩ (.int .u64 (e3 z11))) b7w z13) := var_other V7w.out (by omega) _ _ _ _
            replace O7w : Hid (Own ((((x1w16.setCell ⟨b8w, 0, none⟩ (.int .u64 (e0 z11))).setCell ⟨b8w, 1, none⟩ (.int .u64 (e1 z11))).setCell ⟨b8w, 2, none⟩ (.int .u64 (e2 z11))).setCell ⟨b8w, 3, none⟩ (.int .u64 (e3 z11))) b7w) := own_other O7w.out (by omega) _ _ _ _
            replace O8w : Hid (Own ((((x1w16.setCell ⟨b8w, 0, none⟩ (.int .u64 (e0 z11))).setCell ⟨b8w, 1, none⟩ (.int .u64 (e1 z11))).setCell ⟨b8w, 2, none⟩ (.int .u64 (e2 z11))).setCell ⟨b8w, 3, none⟩ (.int .u64 (e3 z11))) b8w) := own_set O8w.out _ _ _ _
            clear nc0 nc1 nc2 nc3 nf0 nf1 nf2 nf3
            generalize (((x1w16.setCell ⟨b8w, 0, none⟩ (.int .u64 (e0 z11))).setCell ⟨b8w, 1, none⟩ (.int .u64 (e1 z11))).setCell ⟨b8w, 2, none⟩ (.int .u64 (e2 z11))).setCell ⟨b8w, 3, none⟩ (.int .u64 (e3 z11)) = x1w17 at *
            refine wpAnyH_done (by kernel_rfl) ?_ _
            refine NoPanic.normal ?_
            go_wp2_with fail
            go_meet
            case rel => exact ⟨_, _, _, _, rfl, hz13, Hz13, V7w, hg7, O7w, rfl, hz11, Hz11, V8w, hg8, O8w, (by omega), hH⟩
          case c101w13 =>
            go_simp
            have hL8 : W0.heap.size ≤ y1w9.heap.size := hH.size
            refine hK.out _ _ (hH.trans (bel1 _ _)) (fun hH' => ?_)
            clear hK K hH
            have hH := hH'
            clear hH'
            try simp only [List.setIfInBounds_toArray, List.set]
            have O8w : Hid (Own (y1w9.alloc (.cells #[.int .u64 0, .int .u64 0, .int .u64 0, .int .u64 0] 28)) y1w9.heap.size) := own_new y1w9 _ _ _ _ _
            generalize y1w9.alloc (.cells #[.int .u64 0, .int .u64 0, .int .u64 0, .int .u64 0] 28) = x1w18 at *
            generalize y1w9.heap.size = b8w at *
            have hg8 : W0.heap.size ≤ b8w := hL8
            refine wpAnyH_ready (rs := [9]) (by kernel_rfl) (by simp) ?_
            refine AllReadyH.cons (o := ?o91w19) ?h91w19 (fun K hK => ?_) AllReadyH.nil
            case h91w19 => simp only [List.getElem?_toArray]; rfl
            go_simp
            have hL7 : W0.heap.size ≤ x1w18.heap.size := hH.size
            have lt8_7 : b8w < x1w18.heap.size := O8w.out.lt
            refine hK.out _ _ (hH.trans (bel1 _ _)) (fun hH' => ?_)
            clear hK K hH
            have hH := hH'
            clear hH'
            try simp only [List.setIfInBounds_toArray, List.set]
            have O7w : Hid (Own (x1w18.alloc (.cells #[.int .u64 0, .int .u64 0, .int .u64 0, .int .u64 0] 28)) x1w18.heap.size) := own_new x1w18 _ _ _ _ _
            replace O8w : Hid (Own (x1w18.alloc (.cells #[.int .u64 0, .int .u64 0, .int .u64 0, .int .u64 0] 28)) b8w) := O8w.out.later (bel1 _ _)
            generalize x1w18.alloc (.cells #[.int .u64 0, .int .u64 0, .int .u64 0, .int .u64 0] 28) = x1w19 at *
            generalize x1w18.heap.size = b7w at *
            have hg7 : W0.heap.size ≤ b7w := hL7
            obtain ⟨⟨_, nc0⟩, ⟨_, nc1⟩, ⟨_, nc2⟩, ⟨_, nc3⟩, nf0, nf1, nf2, nf3⟩ := O7w.out
            refine wpAnyH_ready (rs := [11]) (by kernel_rfl) (by simp) ?_
            refine AllReadyH.cons (o := ?o111w20) ?h111w20 (fun K hK => ?_) AllReadyH.nil
            case h111w20 => simp only [List.getElem?_toArray]; rfl
            go_simp
            refine hK.out _ _ (hH.set4 _ (by omega) _ _ _ _) (fun hH' => ?_)
            clear hK K hH
            have hH := hH'
            clear hH'
            try simp only [List.setIfInBounds_toArray, List.set]
            have V7w : Hid (Var ((((x1w19.setCell ⟨b7w, 0, none⟩ (.int .u64 (e0 z13))).setCell ⟨b7w, 1, none⟩ (.int .u64 (e1 z13))).setCell ⟨b7w, 2, none⟩ (.int .u64 (e2 z13))).setCell ⟨b7w, 3, none⟩ (.int .u64 (e3 z13))) b7w z13) := var_set x1w19 b7w z13 O7w.out
            replace O8w : Hid (Own ((((x1w19.setCell ⟨b7w, 0, none⟩ (.int .u64 (e0 z13))).setCell ⟨b7w, 1, none⟩ (.int .u64 (e1 z13))).setCell ⟨b7w, 2, none⟩ (.int .u64 (e2 z13))).setCell ⟨b7w, 3, none⟩ (.int .u64 (e3 z13))) b8w) := own_other O8w.out (by omega) _ _ _ _
            replace O7w : Hid (Own ((((x1w19.setCell ⟨b7w, 0, none⟩ (.int .u64 (e0 z13))).setCell ⟨b7w, 1, none⟩ (.int .u64 (e1 z13))).setCell ⟨b7w, 2, none⟩ (.int .u64 (e2 z13))).setCell ⟨b7w, 3, none⟩ (.int .u64 (e3 z13))) b7w) := own_set O7w.out _ _ _ _
            clear nc0 nc1 nc2 nc3 nf0 nf1 nf2 nf3
            generalize (((x1w19.setCell ⟨b7w, 0, none⟩ (.int .u64 (e0 z13))).setCell ⟨b7w, 1, none⟩ (.int .u64 (e1 z13))).setCell ⟨b7w, 2, none⟩ (.int .u64 (e2 z13))).setCell ⟨b7w, 3, none⟩ (.int .u64 (e3 z13)) = x1w20 at *
            obtain ⟨⟨_, nc0⟩, ⟨_, nc1⟩, ⟨_, nc2⟩, ⟨_, nc3⟩, nf0, nf1, nf2, nf3⟩ := O8w.out
            refine wpAnyH_ready (rs := [12]) (by kernel_rfl) (by simp) ?_
            refine AllReadyH.cons (o := ?o121w21) ?h121w21 (fun K hK => ?_) AllReadyH.nil
            case h121w21 => simp only [List.getElem?_toArray]; rfl
            go_simp
            refine hK.out _ _ (hH.set4 _ (by omega) _ _ _ _) (fun hH' => ?_)
            clear hK K hH
            have hH := hH'
            clear hH'
            try simp only [List.setIfInBounds_toArray, List.set]
            have V8w : Hid (Var ((((x1w20.setCell ⟨b8w, 0, none⟩ (.int .u64 (e0 z11))).setCell ⟨b8w, 1, none⟩ (.int .u64 (e1 z11))).setCell ⟨b8w, 2, none⟩ (.int .u64 (e2 z11))).setCell ⟨b8w, 3, none⟩ (.int .u64 (e3 z11))) b8w z11) := var_set x1w20 b8w z11 O8w.out
            replace V7w : Hid (Var ((((x1w20.setCell ⟨b8w, 0, none⟩ (.int .u64 (e0 z11))).setCell ⟨b8w, 1, none⟩ (.int .u64 (e1 z11))).setCell ⟨b8w, 2, none⟩ (.int .u64 (e2 z11))).setCell ⟨b8w, 3, none⟩ (.int .u64 (e3 z11))) b7w z13) := var_other V7w.out (by omega) _ _ _ _
            replace O7w : Hid (Own ((((x1w20.setCell ⟨b8w, 0, none⟩ (.int .u64 (e0 z11))).setCell ⟨b8w, 1, none⟩ (.int .u64 (e1 z11))).setCell ⟨b8w, 2, none⟩ (.int .u64 (e2 z11))).setCell ⟨b8w, 3, none⟩ (.int .u64 (e3 z11))) b7w) := own_other O7w.out (by omega) _ _ _ _
            replace O8w : Hid (Own ((((x1w20.setCell ⟨b8w, 0, none⟩ (.int .u64 (e0 z11))).setCell ⟨b8w, 1, none⟩ (.int .u64 (e1 z11))).setCell ⟨b8w, 2, none⟩ (.int .u64 (e2 z11))).setCell ⟨b8w, 3, none⟩ (.int .u64 (e3 z11))) b8w) := own_set O8w.out _ _ _ _
            clear nc0 nc1 nc2 nc3 nf0 nf1 nf2 nf3
            generalize (((x1w20.setCell ⟨b8w, 0, none⟩ (.int .u64 (e0 z11))).setCell ⟨b8w, 1, none⟩ (.int .u64 (e1 z11))).setCell ⟨b8w, 2, none⟩ (.int .u64 (e2 z11))).setCell ⟨b8w, 3, none⟩ (.int .u64 (e3 z11)) = x1w21 at *
            refine wpAnyH_done (by kernel_rfl) ?_ _
            refine NoPanic.normal ?_
            go_wp2_with fail
            go_meet
            case rel => exact ⟨_, _, _, _, rfl, hz13, Hz13, V7w, hg7, O7w, rfl, hz11, Hz11, V8w, hg8, O8w, (by omega), hH⟩
        case c91w8 =>
          go_simp
          have hL7 : W0.heap.size ≤ y1w7.heap.size := hH.size
          refine hK.out _ _ (hH.trans (bel1 _ _)) (fun hH' => ?_)
          clear hK K hH
          have hH := hH'
          clear hH'
          try simp only [List.setIfInBounds_toArray, List.set]
          have O7w : Hid (Own (y1w7.alloc (.cells #[.int .u64 0, .int .u64 0, .int .u64 0, .int .u64 0] 28)) y1w7.heap.size) := own_new y1w7 _ _ _ _ _
          generalize y1w7.alloc (.cells #[.int .u64 0, .int .u64 0, .int .u64 0, .int .u64 0] 28) = x1w22 at *
          generalize y1w7.heap.size = b7w at *
          have hg7 : W0.heap.size ≤ b7w := hL7
          refine wpAnyH_ready (rs := [5, 10]) (by kernel_rfl) (by simp) ?_
          refine AllReadyH.cons (o := ?o51w23) ?h51w23 (fun K hK => ?c51w23) (AllReadyH.cons (o := ?o101w23) ?h101w23 (fun K hK => ?c101w23) AllReadyH.nil)
          case h51w23 => simp only [List.getElem?_toArray]; rfl
          case h101w23 => simp only [List.getElem?_toArray]; rfl
          case c51w23 =>
            go_simp
            refine (swap_odd z11 z13 n hz11 hz13 hn hp.out _).mono ?_
            rintro e y1w24 ⟨rfl, hb1w24⟩
            refine hK.out _ _ (hH.trans hb1w24) (fun hH' => ?_)
            clear hK K hH
            have hH := hH'
            clear hH'
            try simp only [List.setIfInBounds_toArray, List.set]
            replace O7w : Hid (Own y1w24 b7w) := O7w.out.later hb1w24
            clear hb1w24
            refine wpAnyH_take (i := 6) (oi := ?o61w25) (v := ?v61w25) ?h61w25 (by kernel_rfl) ?f61w25 ?r61w25 (fun _ _ _ h => h) (Or.inl ⟨?w61w25, ?y61w25⟩) (by assumption) ?t61w25
            case h61w25 => simp only [List.getElem?_toArray]; rfl
            case f61w25 => kernel_rfl
            case r61w25 => kernel_rfl
            case w61w25 => rfl
            case y61w25 => (intro u hu; (go_simp) <;> with_reducible rfl)
            try simp only [Act.put, List.setIfInBounds_toArray, List.set_cons_zero, List.set_cons_succ]
            refine wpAnyH_take (i := 7) (oi := ?o71w26) (v := ?v71w26) ?h71w26 (by kernel_rfl) ?f71w26 ?r71w26 (fun _ _ _ h => h) (Or.inl ⟨?w71w26, ?y71w26⟩) (by assumption) ?t71w26
            case h71w26 => simp only [List.getElem?_toArray]; rfl
            case f71w26 => kernel_rfl
            case r71w26 => kernel_rfl
            case w71w26 => rfl
            case y71w26 => (intro u hu; (go_simp) <;> with_reducible rfl)
            try simp only [Act.put, List.setIfInBounds_toArray, List.set_cons_zero, List.set_cons_succ]
            refine wpAnyH_take (i := 8) (oi := ?o81w27) (v := ?v81w27) ?h81w27 (by kernel_rfl) ?f81w27 ?r81w27 (fun _ _ _ h => h) (Or.inl ⟨?w81w27, ?y81w27⟩) (by assumption) ?t81w27
            case h81w27 => simp only [List.getElem?_toArray]; rfl
            case f81w27 => kernel_rfl
            case r81w27 => kernel_rfl
            case w81w27 => rfl
            case y81w27 => (intro u hu; (go_simp) <;> with_reducible rfl)
            try simp only [Act.put, List.setIfInBounds_toArray, List.set_cons_zero, List.set_cons_succ]
            refine wpAnyH_ready (rs := [10]) (by kernel_rfl) (by simp) ?_
            refine AllReadyH.cons (o := ?o101w28) ?h101w28 (fun K hK => ?_) AllReadyH.nil
            case h101w28 => simp only [List.getElem?_toArray]; rfl
            go_simp
            have hL8 : W0.heap.size ≤ y1w24.heap.size := hH.size
            have lt7_8 : b7w < y1w24.heap.size := O7w.out.lt
            refine hK.out _ _ (hH.trans (bel1 _ _)) (fun hH' => ?_)
            clear hK K hH
            have hH := hH'
            clear hH'
            try simp only [List.setIfInBounds_toArray, List.set]
            have O8w : Hid (Own (y1w24.alloc (.cells #[.int .u64 0, .int .u64 0, .int .u64 0, .int .u64 0] 28)) y1w24.heap.size) := own_new y1w24 _ _ _ _ _
            replace O7w : Hid (Own (y1w24.alloc (.cells #[.int .u64 0, .int .u64 0, .int .u64 0, .int .u64 0] 28)) b7w) := O7w.out.later (bel1 _ _)
            generalize y1w24.alloc (.cells #[.int .u64 0, .int .u64 0, .int .u64 0, .int .u64 0] 28) = x1w28 at *
            generalize y1w24.heap.size = b8w at *
            have hg8 : W0.heap.size ≤ b8w := hL8
            obtain ⟨⟨_, nc0⟩, ⟨_, nc1⟩, ⟨_, nc2⟩, ⟨_, nc3⟩, nf0, nf1, nf2, nf3⟩ := O7w.out
            refine wpAnyH_ready (rs := [11]) (by kernel_rfl) (by simp) ?_
            refine AllReadyH.cons (o := ?o111w29) ?h111w29 (fun K hK => ?_) AllReadyH.nil
            case h111w29 => simp only [List.getElem?_toArray]; rfl
            go_simp
            refine hK.out _ _ (hH.set4 _ (by omega) _ _ _ _) (fun hH' => ?_)
            clear hK K hH
            have hH := hH'
            clear hH'
            try simp only [List.setIfInBounds_toArray, List.set]
            have V7w : Hid (Var ((((x1w28.setCell ⟨b7w, 0, none⟩ (.int .u64 (e0 z13))).setCell ⟨b7w, 1, none⟩ (.int .u64 (e1 z13))).setCell ⟨b7w, 2, none⟩ (.int .u64 (e2 z13))).setCell ⟨b7w, 3, none⟩ (.int .u64 (e3 z13))) b7w z13) := var_set x1w28 b7w z13 O7w.out
            replace O8w : Hid (Own ((((x1w28.setCell ⟨b7w, 0, none⟩ (.int .u64 (e0 z13))).setCell ⟨b7w, 1, none⟩ (.int .u64 (e1 z13))).setCell ⟨b7w, 2, none⟩ (.int .u64 (e2 z13))).setCell ⟨b7w, 3, none⟩ (.int .u64 (e3 z13))) b8w) := own_other O8w.out (by omega) _ _ _ _
            replace O7w : Hid (Own ((((x1w28.setCell ⟨b7w, 0, none⟩ (.int .u64 (e0 z13))).setCell ⟨b7w, 1, none⟩ (.int .u64 (e1 z13))).setCell ⟨b7w, 2, none⟩ (.int .u64 (e2 z13))).setCell ⟨b7w, 3, none⟩ (.int .u64 (e3 z13))) b7w) := own_set O7w.out _ _ _ _
            clear nc0 nc1 nc2 nc3 nf0 nf1 nf2 nf3
            generalize (((x1w28.setCell ⟨b7w, 0, none⟩ (.int .u64 (e0 z13))).setCell ⟨b7w, 1, none⟩ (.int .u64 (e1 z13))).setCell ⟨b7w, 2, none⟩ (.int .u64 (e2 z13))).setCell ⟨b7w, 3, none⟩ (.int .u64 (e3 z13)) = x1w29 at *
            obtain ⟨⟨_, nc0⟩, ⟨_, nc1⟩, ⟨_, nc2⟩, ⟨_, nc3⟩, nf0, nf1, nf2, nf3⟩ := O8w.out
            refine wpAnyH_ready (rs := [12]) (by kernel_rfl) (by simp) ?_
            refine AllReadyH.cons (o := ?o121w30) ?h121w30 (fun K hK => ?_) AllReadyH.nil
            case h121w30 => simp only [List.getElem?_toArray]; rfl
            go_simp
            refine hK.out _ _ (hH.set4 _ (by omega) _ _ _ _) (fun hH' => ?_)
            clear hK K hH
            have hH := hH'
            clear hH'
            try simp only [List.setIfInBounds_toArray, List.set]
            have V8w : Hid (Var ((((x1w29.setCell ⟨b8w, 0, none⟩ (.int .u64 (e0 z11))).setCell ⟨b8w, 1, none⟩ (.int .u64 (e1 z11))).setCell ⟨b8w, 2, none⟩ (.int .u64 (e2 z11))).setCell ⟨b8w, 3, none⟩ (.int .u64 (e3 z11))) b8w z11) := var_set x1w29 b8w z11 O8w.out
            replace V7w : Hid (Var ((((x1w29.setCell ⟨b8w, 0, none⟩ (.int .u64 (e0 z11))).setCell ⟨b8w, 1, none⟩ (.int .u64 (e1 z11))).setCell ⟨b8w, 2, none⟩ (.int .u64 (e2 z11))).setCell ⟨b8w, 3, none⟩ (.int .u64 (e3 z11))) b7w z13) := var_other V7w.out (by omega) _ _ _ _
            replace O7w : Hid (Own ((((x1w29.setCell ⟨b8w, 0, none⟩ (.int .u64 (e0 z11))).setCell ⟨b8w, 1, none⟩ (.int .u64 (e1 z11))).setCell ⟨b8w, 2, none⟩ (.int .u64 (e2 z11))).setCell ⟨b8w, 3, none⟩ (.int .u64 (e3 z11))) b7w) := own_other O7w.out (by omega) _ _ _ _
            replace O8w : Hid (Own ((((x1w29.setCell ⟨b8w, 0, none⟩ (.int .u64 (e0 z11))).setCell ⟨b8w, 1, none⟩ (.int .u64 (e1 z11))).setCell ⟨b8w, 2, none⟩ (.int .u64 (e2 z11))).setCell ⟨b8w, 3, none⟩ (.int .u64 (e3 z11))) b8w) := own_set O8w.out _ _ _ _
            clear nc0 nc1 nc2 nc3 nf0 nf1 nf2 nf3
            generalize (((x1w29.setCell ⟨b8w, 0, none⟩ (.int .u64 (e0 z11))).setCell ⟨b8w, 1, none⟩ (.int .u64 (e1 z11))).setCell ⟨b8w, 2, none⟩ (.int .u64 (e2 z11))).setCell ⟨b8w, 3, none⟩ (.int .u64 (e3 z11)) = x1w30 at *
            refine wpAnyH_done (by kernel_rfl) ?_ _
            refine NoPanic.normal ?_
            go_wp2_with fail
            go_meet
            case rel => exact ⟨_, _, _, _, rfl, hz13, Hz13, V7w, hg7, O7w, rfl, hz11, Hz11, V8w, hg8, O8w, (by omega), hH⟩
          case c101w23 =>
            go_simp
            have hL8 : W0.heap.size ≤ x1w22.heap.size := hH.size
            have lt7_8 : b7w < x1w22.heap.size := O7w.out.lt
            refine hK.out _ _ (hH.trans (bel1 _ _)) (fun hH' => ?_)
            clear hK K hH
            have hH := hH'
            clear hH'
            try simp only [List.setIfInBounds_toArray, List.set]
            have O8w : Hid (Own (x1w22.alloc (.cells #[.int .u64 0, .int .u64 0, .int .u64 0, .int .u64 0] 28)) x1w22.heap.size) := own_new x1w22 _ _ _ _ _
            replace O7w : Hid (Own (x1w22.alloc (.cells #[.int .u64 0, .int .u64 0, .int .u64 0, .int .u64 0] 28)) b7w) := O7w.out.later (bel1 _ _)
            generalize x1w22.alloc (.cells #[.int .u64 0, .int .u64 0, .int .u64 0, .int .u64 0] 28) = x1w31 at *
            generalize x1w22.heap.size = b8w at *
            have hg8 : W0.heap.size ≤ b8w := hL8
            refine wpAnyH_ready (rs := [5]) (by kernel_rfl) (by simp) ?_
            refine AllReadyH.cons (o := ?o51w32) ?h51w32 (fun K hK => ?_) AllReadyH.nil
            case h51w32 => simp only [List.getElem?_toArray]; rfl
            go_simp
            refine (swap_odd z11 z13 n hz11 hz13 hn hp.out _).mono ?_
            rintro e y1w32 ⟨rfl, hb1w32⟩
            refine hK.out _ _ (hH.trans hb1w32) (fun hH' => ?_)
            clear hK K hH
            have hH := hH'
            clear hH'
            try simp only [List.setIfInBounds_toArray, List.set]
            replace O7w : Hid (Own y1w32 b7w) := O7w.out.later hb1w32
            replace O8w : Hid (Own y1w32 b8w) := O8w.out.later hb1w32
            clear hb1w32
            refine wpAnyH_take (i := 6) (oi := ?o61w33) (v := ?v61w33) ?h61w33 (by kernel_rfl) ?f61w33 ?r61w33 (fun _ _ _ h => h) (Or.inl ⟨?w61w33, ?y61w33⟩) (by assumption) ?t61w33
            case h61w33 => simp only [List.getElem?_toArray]; rfl
            case f61w33 => kernel_rfl
            case r61w33 => kernel_rfl
            case w61w33 => rfl
            case y61w33 => (intro u hu; (go_simp) <;> with_reducible rfl)
            try simp only [Act.put, List.setIfInBounds_toArray, List.set_cons_zero, List.set_cons_succ]
            refine wpAnyH_take (i := 7) (oi := ?o71w34) (v := ?v71w34) ?h71w34 (by kernel_rfl) ?f71w34 ?r71w34 (fun _ _ _ h => h) (Or.inl ⟨?w71w34, ?y71w34⟩) (by assumption) ?t71w34
            case h71w34 => simp only [List.getElem?_toArray]; rfl
            case f71w34 => kernel_rfl
            case r71w34 => kernel_rfl
            case w71w34 => rfl
            case y71w34 => (intro u hu; (go_simp) <;> with_reducible rfl)
            try simp only [Act.put, List.setIfInBounds_toArray, List.set_cons_zero, List.set_cons_succ]
            refine wpAnyH_take (i := 8) (oi := ?o81w35) (v := ?v81w35) ?h81w35 (by kernel_rfl) ?f81w35 ?r81w35 (fun _ _ _ h => h) (Or.inl ⟨?w81w35, ?y81w35⟩) (by assumption) ?t81w35
            case h81w35 => simp only [List.getElem?_toArray]; rfl
            case f81w35 => kernel_rfl
            case r81w35 => kernel_rfl
            case w81w35 => rfl
            case y81w35 => (intro u hu; (go_simp) <;> with_reducible rfl)
            try simp only [Act.put, List.setIfInBounds_toArray, List.set_cons_zero, List.set_cons_succ]
            obtain ⟨⟨_, nc0⟩, ⟨_, nc1⟩, ⟨_, nc2⟩, ⟨_, nc3⟩, nf0, nf1, nf2, nf3⟩ := O7w.out
            refine wpAnyH_ready (rs := [11]) (by kernel_rfl) (by simp) ?_
            refine AllReadyH.cons (o := ?o111w36) ?h111w36 (fun K hK => ?_) AllReadyH.nil
            case h111w36 => simp only [List.getElem?_toArray]; rfl
            go_simp
            refine hK.out _ _ (hH.set4 _ (by omega) _ _ _ _) (fun hH' => ?_)
            clear hK K hH
            have hH := hH'
            clear hH'
            try simp only [List.setIfInBounds_toArray, List.set]
            have V7w : Hid (Var ((((y1w32.setCell ⟨b7w, 0, none⟩ (.int .u64 (e0 z13))).setCell ⟨b7w, 1, none⟩ (.int .u64 (e1 z13))).setCell ⟨b7w, 2, none⟩ (.int .u64 (e2 z13))).setCell ⟨b7w, 3, none⟩ (.int .u64 (e3 z13))) b7w z13) := var_set y1w32 b7w z13 O7w.out
            replace O8w : Hid (Own ((((y1w32.setCell ⟨b7w, 0, none⟩ (.int .u64 (e0 z13))).setCell ⟨b7w, 1, none⟩ (.int .u64 (e1 z13))).setCell ⟨b7w, 2, none⟩ (.int .u64 (e2 z13))).setCell ⟨b7w, 3, none⟩ (.int .u64 (e3 z13))) b8w) := own_other O8w.out (by omega) _ _ _ _
            replace O7w : Hid (Own ((((y1w32.setCell ⟨b7w, 0, none⟩ (.int .u64 (e0 z13))).setCell ⟨b7w, 1, none⟩ (.int .u64 (e1 z13))).setCell ⟨b7w, 2, none⟩ (.int .u64 (e2 z13))).setCell ⟨b7w, 3, none⟩ (.int .u64 (e3 z13))) b7w) := own_set O7w.out _ _ _ _
            clear nc0 nc1 nc2 nc3 nf0 nf1 nf2 nf3
            generalize (((y1w32.setCell ⟨b7w, 0, none⟩ (.int .u64 (e0 z13))).setCell ⟨b7w, 1, none⟩ (.int .u64 (e1 z13))).setCell ⟨b7w, 2, none⟩ (.int .u64 (e2 z13))).setCell ⟨b7w, 3, none⟩ (.int .u64 (e3 z13)) = x1w36 at *
            obtain ⟨⟨_, nc0⟩, ⟨_, nc1⟩, ⟨_, nc2⟩, ⟨_, nc3⟩, nf0, nf1, nf2, nf3⟩ := O8w.out
            refine wpAnyH_ready (rs := [12]) (by kernel_rfl) (by simp) ?_
            refine AllReadyH.cons (o := ?o121w37) ?h121w37 (fun K hK => ?_) AllReadyH.nil
            case h121w37 => simp only [List.getElem?_toArray]; rfl
            go_simp
            refine hK.out _ _ (hH.set4 _ (by omega) _ _ _ _) (fun hH' => ?_)
            clear hK K hH
            have hH := hH'
            clear hH'
            try simp only [List.setIfInBounds_toArray, List.set]
            have V8w : Hid (Var ((((x1w36.setCell ⟨b8w, 0, none⟩ (.int .u64 (e0 z11))).setCell ⟨b8w, 1, none⟩ (.int .u64 (e1 z11))).setCell ⟨b8w, 2, none⟩ (.int .u64 (e2 z11))).setCell ⟨b8w, 3, none⟩ (.int .u64 (e3 z11))) b8w z11) := var_set x1w36 b8w z11 O8w.out
            replace V7w : Hid (Var ((((x1w36.setCell ⟨b8w, 0, none⟩ (.int .u64 (e0 z11))).setCell ⟨b8w, 1, none⟩ (.int .u64 (e1 z11))).setCell ⟨b8w, 2, none⟩ (.int .u64 (e2 z11))).setCell ⟨b8w, 3, none⟩ (.int .u64 (e3 z11))) b7w z13) := var_other V7w.out (by omega) _ _ _ _
            replace O7w : Hid (Own ((((x1w36.setCell ⟨b8w, 0, none⟩ (.int .u64 (e0 z11))).setCell ⟨b8w, 1, none⟩ (.int .u64 (e1 z11))).setCell ⟨b8w, 2, none⟩ (.int .u64 (e2 z11))).setCell ⟨b8w, 3, none⟩ (.int .u64 (e3 z11))) b7w) := own_other O7w.out (by omega) _ _ _ _
            replace O8w : Hid (Own ((((x1w36.setCell ⟨b8w, 0, none⟩ (.int .u64 (e0 z11))).setCell ⟨b8w, 1, none⟩ (.int .u64 (e1 z11))).setCell ⟨b8w, 2, none⟩ (.int .u64 (e2 z11))).setCell ⟨b8w, 3, none⟩ (.int .u64 (e3 z11))) b8w) := own_set O8w.out _ _ _ _
            clear nc0 nc1 nc2 nc3 nf0 nf1 nf2 nf3
            generalize (((x1w36.setCell ⟨b8w, 0, none⟩ (.int .u64 (e0 z11))).setCell ⟨b8w, 1, none⟩ (.int .u64 (e1 z11))).setCell ⟨b8w, 2, none⟩ (.int .u64 (e2 z11))).setCell ⟨b8w, 3, none⟩ (.int .u64 (e3 z11)) = x1w37 at *
            refine wpAnyH_done (by kernel_rfl) ?_ _
            refine NoPanic.normal ?_
            go_wp2_with fail
            go_meet
            case rel => exact ⟨_, _, _, _, rfl, hz13, Hz13, V7w, hg7, O7w, rfl, hz11, Hz11, V8w, hg8, O8w, (by omega), hH⟩
        case c101w8 =>
          go_simp
          have hL8 : W0.heap.size ≤ y1w7.heap.size := hH.size
          refine hK.out _ _ (hH.trans (bel1 _ _)) (fun hH' => ?_)
          clear hK K hH
          have hH := hH'
          clear hH'
          try simp only [List.setIfInBounds_toArray, List.set]
          have O8w : Hid (Own (y1w7.alloc (.cells #[.int .u64 0, .int .u64 0, .int .u64 0, .int .u64 0] 28)) y1w7.heap.size) := own_new y1w7 _ _ _ _ _
          generalize y1w7.alloc (.cells #[.int .u64 0, .int .u64 0, .int .u64 0, .int .u64 0] 28) = x1w38 at *
          generalize y1w7.heap.size = b8w at *
          have hg8 : W0.heap.size ≤ b8w := hL8
          refine wpAnyH_ready (rs := [5, 9]) (by kernel_rfl) (by simp) ?_
          refine AllReadyH.cons (o := ?o51w39) ?h51w39 (fun K hK => ?c51w39) (AllReadyH.cons (o := ?o91w39) ?h91w39 (fun K hK => ?c91w39) AllReadyH.nil)
          case h51w39 => simp only [List.getElem?_toArray]; rfl
          case h91w39 => simp only [List.getElem?_toArray]; rfl
          case c51w39 =>
            go_simp
            refine (swap_odd z11 z13 n hz11 hz13 hn hp.out _).mono ?_
            rintro e y1w40 ⟨rfl, hb1w40⟩
            refine hK.out _ _ (hH.trans hb1w40) (fun hH' => ?_)
            clear hK K hH
            have hH := hH'
            clear hH'
            try simp only [List.setIfInBounds_toArray, List.set]
            replace O8w : Hid (Own y1w40 b8w) := O8w.out.later hb1w40
            clear hb1w40
            refine wpAnyH_take (i := 6) (oi := ?o61w41) (v := ?v61w41) ?h61w41 (by kernel_rfl) ?f61w41 ?r61w41 (fun _ _ _ h => h) (Or.inl ⟨?w61w41, ?y61w41⟩) (by assumption) ?t61w41
            case h61w41 => simp only [List.getElem?_toArray]; rfl
            case f61w41 => kernel_rfl
            case r61w41 => kernel_rfl
            case w61w41 => rfl
            case y61w41 => (intro u hu; (go_simp) <;> with_reducible rfl)
            try simp only [Act.put, List.setIfInBounds_toArray, List.set_cons_zero, List.set_cons_succ]
            refine wpAnyH_take (i := 7) (oi := ?o71w42) (v := ?v71w42) ?h71w42 (by kernel_rfl) ?f71w42 ?r71w42 (fun _ _ _ h => h) (Or.inl ⟨?w71w42, ?y71w42⟩) (by assumption) ?t71w42
            case h71w42 => simp only [List.getElem?_toArray]; rfl
            case f71w42 => kernel_rfl
            case r71w42 => kernel_rfl
            case w71w42 => rfl
            case y71w42 => (intro u hu; (go_simp) <;> with_reducible rfl)
            try simp only [Act.put, List.setIfInBounds_toArray, List.set_cons_zero, List.set_cons_succ]
            refine wpAnyH_take (i := 8) (oi := ?o81w43) (v := ?v81w43) ?h81w43 (by kernel_rfl) ?f81w43 ?r81w43 (fun _ _ _ h => h) (Or.inl ⟨?w81w43, ?y81w43⟩) (by assumption) ?t81w43
            case h81w43 => simp only [List.getElem?_toArray]; rfl
            case f81w43 => kernel_rfl
            case r81w43 => kernel_rfl
            case w81w43 => rfl
            case y81w43 => (intro u hu; (go_simp) <;> with_reducible rfl)
            try simp only [Act.put, List.setIfInBounds_toArray, List.set_cons_zero, List.set_cons_succ]
            refine wpAnyH_ready (rs := [9]) (by kernel_rfl) (by simp) ?_
            refine AllReadyH.cons (o := ?o91w44) ?h91w44 (fun K hK => ?_) AllReadyH.nil
            case h91w44 => simp only [List.getElem?_toArray]; rfl
            go_simp
            have hL7 : W0.heap.size ≤ y1w40.heap.size := hH.size
            have lt8_7 : b8w < y1w40.heap.size := O8w.out.lt
            refine hK.out _ _ (hH.trans (bel1 _ _)) (fun hH' => ?_)
            clear hK K hH
            have hH := hH'
            clear hH'
            try simp only [List.setIfInBounds_toArray, List.set]
            have O7w : Hid (Own (y1w40.alloc (.cells #[.int .u64 0, .int .u64 0, .int .u64 0, .int .u64 0] 28)) y1w40.heap.size) := own_new y1w40 _ _ _ _ _
            replace O8w : Hid (Own (y1w40.alloc (.cells #[.int .u64 0, .int .u64 0, .int .u64 0, .int .u64 0] 28)) b8w) := O8w.out.later (bel1 _ _)
            generalize y1w40.alloc (.cells #[.int .u64 0, .int .u64 0, .int .u64 0, .int .u64 0] 28) = x1w44 at *
            generalize y1w40.heap.size = b7w at *
            have hg7 : W0.heap.size ≤ b7w := hL7
            obtain ⟨⟨_, nc0⟩, ⟨_, nc1⟩, ⟨_, nc2⟩, ⟨_, nc3⟩, nf0, nf1, nf2, nf3⟩ := O7w.out
            refine wpAnyH_ready (rs := [11]) (by kernel_rfl) (by simp) ?_
            refine AllReadyH.cons (o := ?o111w45) ?h111w45 (fun K hK => ?_) AllReadyH.nil
            case h111w45 => simp only [List.getElem?_toArray]; rfl
            go_simp
            refine hK.out _ _ (hH.set4 _ (by omega) _ _ _ _) (fun hH' => ?_)
            clear hK K hH
            have hH := hH'
            clear hH'
            try simp only [List.setIfInBounds_toArray, List.set]
            have V7w : Hid (Var ((((x1w44.setCell ⟨b7w, 0, none⟩ (.int .u64 (e0 z13))).setCell ⟨b7w, 1, none⟩ (.int .u64 (e1 z13))).setCell ⟨b7w, 2, none⟩ (.int .u64 (e2 z13))).setCell ⟨b7w, 3, none⟩ (.int .u64 (e3 z13))) b7w z13) := var_set x1w44 b7w z13 O7w.out
            replace O8w : Hid (Own ((((x1w44.setCell ⟨b7w, 0, none⟩ (.int .u64 (e0 z13))).setCell ⟨b7w, 1, none⟩ (.int .u64 (e1 z13))).setCell ⟨b7w, 2, none⟩ (.int .u64 (e2 z13))).setCell ⟨b7w, 3, none⟩ (.int .u64 (e3 z13))) b8w) := own_other O8w.out (by omega) _ _ _ _
            replace O7w : Hid (Own ((((x1w44.setCell ⟨b7w, 0, none⟩ (.int .u64 (e0 z13))).setCell ⟨b7w, 1, none⟩ (.int .u64 (e1 z13))).setCell ⟨b7w, 2, none⟩ (.int .u64 (e2 z13))).setCell ⟨b7w, 3, none⟩ (.int .u64 (e3 z13))) b7w) := own_set O7w.out _ _ _ _
            clear nc0 nc1 nc2 nc3 nf0 nf1 nf2 nf3
            generalize (((x1w44.setCell ⟨b7w, 0, none⟩ (.int .u64 (e0 z13))).setCell ⟨b7w, 1, none⟩ (.int .u64 (e1 z13))).setCell ⟨b7w, 2, none⟩ (.int .u64 (e2 z13))).setCell ⟨b7w, 3, none⟩ (.int .u64 (e3 z13)) = x1w45 at *
            obtain ⟨⟨_, nc0⟩, ⟨_, nc1⟩, ⟨_, nc2⟩, ⟨_, nc3⟩, nf0, nf1, nf2, nf3⟩ := O8w.out
            refine wpAnyH_ready (rs := [12]) (by kernel_rfl) (by simp) ?_
            refine AllReadyH.cons (o := ?o121w46) ?h121w46 (fun K hK => ?_) AllReadyH.nil
            case h121w46 => simp only [List.getElem?_toArray]; rfl
            go_simp
            refine hK.out _ _ (hH.set4 _ (by omega) _ _ _ _) (fun hH' => ?_)
            clear hK K hH
            have hH := hH'
            clear hH'
            try simp only [List.setIfInBounds_toArray, List.set]
            have V8w : Hid (Var ((((x1w45.setCell ⟨b8w, 0, none⟩ (.int .u64 (e0 z11))).setCell ⟨b8w, 1, none⟩ (.int .u64 (e1 z11))).setCell ⟨b8w, 2, none⟩ (.int .u64 (e2 z11))).setCell ⟨b8w, 3, none⟩ (.int .u64 (e3 z11))) b8w z11) := var_set x1w45 b8w z11 O8w.out
            replace V7w : Hid (Var ((((x1w45.setCell ⟨b8w, 0, none⟩ (.int .u64 (e0 z11))).setCell ⟨b8w, 1, none⟩ (.int .u64 (e1 z11))).setCell ⟨b8w, 2, none⟩ (.int .u64 (e2 z11))).setCell ⟨b8w, 3, none⟩ (.int .u64 (e3 z11))) b7w z13) := var_other V7w.out (by omega) _ _ _ _
            replace O7w : Hid (Own ((((x1w45.setCell ⟨b8w, 0, none⟩ (.int .u64 (e0 z11))).setCell ⟨b8w, 1, none⟩ (.int .u64 (e1 z11))).setCell ⟨b8w, 2, none⟩ (.int .u64 (e2 z11))).setCell ⟨b8w, 3, none⟩ (.int .u64 (e3 z11))) b7w) := own_other O7w.out (by omega) _ _ _ _
            replace O8w : Hid (Own ((((x1w45.setCell ⟨b8w, 0, none⟩ (.int .u64 (e0 z11))).setCell ⟨b8w, 1, none⟩ (.int .u64 (e1 z11))).setCell ⟨b8w, 2, none⟩ (.int .u64 (e2 z11))).setCell ⟨b8w, 3, none⟩ (.int .u64 (e3 z11))) b8w) := own_set O8w.out _ _ _ _
            clear nc0 nc1 nc2 nc3 nf0 nf1 nf2 nf3
            generalize (((x1w45.setCell ⟨b8w, 0, none⟩ (.int .u64 (e0 z11))).setCell ⟨b8w, 1, none⟩ (.int .u64 (e1 z11))).setCell ⟨b8w, 2, none⟩ (.int .u64 (e2 z11))).setCell ⟨b8w, 3, none⟩ (.int .u64 (e3 z11)) = x1w46 at *
            refine wpAnyH_done (by kernel_rfl) ?_ _
            refine NoPanic.normal ?_
            go_wp2_with fail
            go_meet
            case rel => exact ⟨_, _, _, _, rfl, hz13, Hz13, V7w, hg7, O7w, rfl, hz11, Hz11, V8w, hg8, O8w, (by omega), hH⟩
          case c91w39 =>
            go_simp
            have hL7 : W0.heap.size ≤ x1w38.heap.size := hH.size
            have lt8_7 : b8w < x1w38.heap.size := O8w.out.lt
            refine hK.out _ _ (hH.trans (bel1 _ _)) (fun hH' => ?_)
            clear hK K hH
            have hH := hH'
            clear hH'
            try simp only [List.setIfInBounds_toArray, List.set]
            have O7w : Hid (Own (x1w38.alloc (.cells #[.int .u64 0, .int .u64 0, .int .u64 0, .int .u64 0] 28)) x1w38.heap.size) := own_new x1w38 _ _ _ _ _
            replace O8w : Hid (Own (x1w38.alloc (.cells #[.int .u64 0, .int .u64 0, .int .u64 0, .int .u64 0] 28)) b8w) := O8w.out.later (bel1 _ _)
            generalize x1w38.alloc (.cells #[.int .u64 0, .int .u64 0, .int .u64 0, .int .u64 0] 28) = x1w47 at *
            generalize x1w38.heap.size = b7w at *
            have hg7 : W0.heap.size ≤ b7w := hL7
            refine wpAnyH_ready (rs := [5]) (by kernel_rfl) (by simp) ?_
            refine AllReadyH.cons (o := ?o51w48) ?h51w48 (fun K hK => ?_) AllReadyH.nil
            case h51w48 => simp only [List.getElem?_toArray]; rfl
            go_simp
            refine (swap_odd z11 z13 n hz11 hz13 hn hp.out _).mono ?_
            rintro e y1w48 ⟨rfl, hb1w48⟩
            refine hK.out _ _ (hH.trans hb1w48) (fun hH' => ?_)
            clear hK K hH
            have hH := hH'
            clear hH'
            try simp only [List.setIfInBounds_toArray, List.set]
            replace O8w : Hid (Own y1w48 b8w) := O8w.out.later hb1w48
            replace O7w : Hid (Own y1w48 b7w) := O7w.out.later hb1w48
            clear hb1w48
            refine wpAnyH_take (i := 6) (oi := ?o61w49) (v := ?v61w49) ?h61w49 (by kernel_rfl) ?f61w49 ?r61w49 (fun _ _ _ h => h) (Or.inl ⟨?w61w49, ?y61w49⟩) (by assumption) ?t61w49
            case h61w49 => simp only [List.getElem?_toArray]; rfl
            case f61w49 => kernel_rfl
            case r61w49 => kernel_rfl
            case w61w49 => rfl
            case y61w49 => (intro u hu; (go_simp) <;> with_reducible rfl)
            try simp only [Act.put, List.setIfInBounds_toArray, List.set_cons_zero, List.set_cons_succ]
            refine wpAnyH_take (i := 7) (oi := ?o71w50) (v := ?v71w50) ?h71w50 (by kernel_rfl) ?f71w50 ?r71w50 (fun _ _ _ h => h) (Or.inl ⟨?w71w50, ?y71w50⟩) (by assumption) ?t71w50
            case h71w50 => simp only [List.getElem?_toArray]; rfl
            case f71w50 => kernel_rfl
            case r71w50 => kernel_rfl
            case w71w50 => rfl
            case y71w50 => (intro u hu; (go_simp) <;> with_reducible rfl)
            try simp only [Act.put, List.setIfInBounds_toArray, List.set_cons_zero, List.set_cons_succ]
            refine wpAnyH_take (i := 8) (oi := ?o81w51) (v := ?v81w51) ?h81w51 (by kernel_rfl) ?f81w51 ?r81w51 (fun _ _ _ h => h) (Or.inl ⟨?w81w51, ?y81w51⟩) (by assumption) ?t81w51
            case h81w51 => simp only [List.getElem?_toArray]; rfl
            case f81w51 => kernel_rfl
            case r81w51 => kernel_rfl
            case w81w51 => rfl
            case y81w51 => (intro u hu; (go_simp) <;> with_reducible rfl)
            try simp only [Act.put, List.setIfInBounds_toArray, List.set_cons_zero, List.set_cons_succ]
            obtain ⟨⟨_, nc0⟩, ⟨_, nc1⟩, ⟨_, nc2⟩, ⟨_, nc3⟩, nf0, nf1, nf2, nf3⟩ := O7w.out
            refine wpAnyH_ready (rs := [11]) (by kernel_rfl) (by simp) ?_
            refine AllReadyH.cons (o := ?o111w52) ?h111w52 (fun K hK => ?_) AllReadyH.nil
            case h111w52 => simp only [List.getElem?_toArray]; rfl
            go_simp
            refine hK.out _ _ (hH.set4 _ (by omega) _ _ _ _) (fun hH' => ?_)
            clear hK K hH
            have hH := hH'
            clear hH'
            try simp only [List.setIfInBounds_toArray, List.set]
            have V7w : Hid (Var ((((y1w48.setCell ⟨b7w, 0, none⟩ (.int .u64 (e0 z13))).setCell ⟨b7w, 1, none⟩ (.int .u64 (e1 z13))).setCell ⟨b7w, 2, none⟩ (.int .u64 (e2 z13))).setCell ⟨b7w, 3, none⟩ (.int .u64 (e3 z13))) b7w z13) := var_set y1w48 b7w z13 O7w.out
            replace O8w : Hid (Own ((((y1w48.setCell ⟨b7w, 0, none⟩ (.int .u64 (e0 z13))).setCell ⟨b7w, 1, none⟩ (.int .u64 (e1 z13))).setCell ⟨b7w, 2, none⟩ (.int .u64 (e2 z13))).setCell ⟨b7w, 3, none⟩ (.int .u64 (e3 z13))) b8w) := own_other O8w.out (by omega) _ _ _ _
            replace O7w : Hid (Own ((((y1w48.setCell ⟨b7w, 0, none⟩ (.int .u64 (e0 z13))).setCell ⟨b7w, 1, none⟩ (.int .u64 (e1 z13))).setCell ⟨b7w, 2, none⟩ (.int .u64 (e2 z13))).setCell ⟨b7w, 3, none⟩ (.int .u64 (e3 z13))) b7w) := own_set O7w.out _ _ _ _
            clear nc0 nc1 nc2 nc3 nf0 nf1 nf2 nf3
            generalize (((y1w48.setCell ⟨b7w, 0, none⟩ (.int .u64 (e0 z13))).setCell ⟨b7w, 1, none⟩ (.int .u64 (e1 z13))).setCell ⟨b7w, 2, none⟩ (.int .u64 (e2 z13))).setCell ⟨b7w, 3, none⟩ (.int .u64 (e3 z13)) = x1w52 at *
            obtain ⟨⟨_, nc0⟩, ⟨_, nc1⟩, ⟨_, nc2⟩, ⟨_, nc3⟩, nf0, nf1, nf2, nf3⟩ := O8w.out
            refine wpAnyH_ready (rs := [12]) (by kernel_rfl) (by simp) ?_
            refine AllReadyH.cons (o := ?o121w53) ?h121w53 (fun K hK => ?_) AllReadyH.nil
            case h121w53 => simp only [List.getElem?_toArray]; rfl
            go_simp
            refine hK.out _ _ (hH.set4 _ (by omega) _ _ _ _) (fun hH' => ?_)
            clear hK K hH
            have hH := hH'
            clear hH'
            try simp only [List.setIfInBounds_toArray, List.set]
            have V8w : Hid (Var ((((x1w52.setCell ⟨b8w, 0, none⟩ (.int .u64 (e0 z11))).setCell ⟨b8w, 1, none⟩ (.int .u64 (e1 z11))).setCell ⟨b8w, 2, none⟩ (.int .u64 (e2 z11))).setCell ⟨b8w, 3, none⟩ (.int .u64 (e3 z11))) b8w z11) := var_set x1w52 b8w z11 O8w.out
            replace V7w : Hid (Var ((((x1w52.setCell ⟨b8w, 0, none⟩ (.int .u64 (e0 z11))).setCell ⟨b8w, 1, none⟩ (.int .u64 (e1 z11))).setCell ⟨b8w, 2, none⟩ (.int .u64 (e2 z11))).setCell ⟨b8w, 3, none⟩ (.int .u64 (e3 z11))) b7w z13) := var_other V7w.out (by omega) _ _ _ _
            replace O7w : Hid (Own ((((x1w52.setCell ⟨b8w, 0, none⟩ (.int .u64 (e0 z11))).setCell ⟨b8w, 1, none⟩ (.int .u64 (e1 z11))).setCell ⟨b8w, 2, none⟩ (.int .u64 (e2 z11))).setCell ⟨b8w, 3, none⟩ (.int .u64 (e3 z11))) b7w) := own_other O7w.out (by omega) _ _ _ _
            replace O8w : Hid (Own ((((x1w52.setCell ⟨b8w, 0, none⟩ (.int .u64 (e0 z11))).setCell ⟨b8w, 1, none⟩ (.int .u64 (e1 z11))).setCell ⟨b8w, 2, none⟩ (.int .u64 (e2 z11))).setCell ⟨b8w, 3, none⟩ (.int .u64 (e3 z11))) b8w) := own_set O8w.out _ _ _ _
            clear nc0 nc1 nc2 nc3 nf0 nf1 nf2 nf3
            generalize (((x1w52.setCell ⟨b8w, 0, none⟩ (.int .u64 (e0 z11))).setCell ⟨b8w, 1, none⟩ (.int .u64 (e1 z11))).setCell ⟨b8w, 2, none⟩ (.int .u64 (e2 z11))).setCell ⟨b8w, 3, none⟩ (.int .u64 (e3 z11)) = x1w53 at *
            refine wpAnyH_done (by kernel_rfl) ?_ _
            refine NoPanic.normal ?_
            go_wp2_with fail
            go_meet
            case rel => exact ⟨_, _, _, _, rfl, hz13, Hz13, V7w, hg7, O7w, rfl, hz11, Hz11, V8w, hg8, O8w, (by omega), hH⟩
      case c91w6 =>
        go_simp
        have hL7 : W0.heap.size ≤ y1w5.heap.size := hH.size
        refine hK.out _ _ (hH.trans (bel1 _ _)) (fun hH' => ?_)
        clear hK K hH
        have hH := hH'
        clear hH'
        try simp only [List.setIfInBounds_toArray, List.set]
        have O7w : Hid (Own (y1w5.alloc (.cells #[.int .u64 0, .int .u64 0, .int .u64 0, .int .u64 0] 28)) y1w5.heap.size) := own_new y1w5 _ _ _ _ _
        generalize y1w5.alloc (.cells #[.int .u64 0, .int .u64 0, .int .u64 0, .int .u64 0] 28) = x1w54 at *
        generalize y1w5.heap.size = b7w at *
        have hg7 : W0.heap.size ≤ b7w := hL7
        refine wpAnyH_ready (rs := [3, 10]) (by kernel_rfl) (by simp) ?_
        refine AllReadyH.cons (o := ?o31w55) ?h31w55 (fun K hK => ?c31w55) (AllReadyH.cons (o := ?o101w55) ?h101w55 (fun K hK => ?c101w55) AllReadyH.nil)
        case h31w55 => simp only [List.getElem?_toArray]; rfl
        case h101w55 => simp only [List.getElem?_toArray]; rfl
        case c31w55 =>
          go_simp
          refine (from_e b hb _).mono ?_
          rintro e y1w56 ⟨z13, rfl, hz13, Hz13, hb1w56⟩
          refine hK.out _ _ (hH.trans hb1w56) (fun hH' => ?_)
          clear hK K hH
          have hH := hH'
          clear hH'
          try simp only [List.setIfInBounds_toArray, List.set]
          replace O7w : Hid (Own y1w56 b7w) := O7w.out.later hb1w56
          clear hb1w56
          refine wpAnyH_ready (rs := [5, 10]) (by kernel_rfl) (by simp) ?_
          refine AllReadyH.cons (o := ?o51w57) ?h51w57 (fun K hK => ?c51w57) (AllReadyH.cons (o := ?o101w57) ?h101w57 (fun K hK => ?c101w57) AllReadyH.nil)
          case h51w57 => simp only [List.getElem?_toArray]; rfl
          case h101w57 => simp only [List.getElem?_toArray]; rfl
          case c51w57 =>
            go_simp
            refine (swap_odd z11 z13 n hz11 hz13 hn hp.out _).mono ?_
            rintro e y1w58 ⟨rfl, hb1w58⟩
            refine hK.out _ _ (hH.trans hb1w58) (fun hH' => ?_)
            clear hK K hH
            have hH := hH'
            clear hH'
            try simp only [List.setIfInBounds_toArray, List.set]
            replace O7w : Hid (Own y1w58 b7w) := O7w.out.later hb1w58
            clear hb1w58
            refine wpAnyH_take (i := 6) (oi := ?o61w59) (v := ?v61w59) ?h61w59 (by kernel_rfl) ?f61w59 ?r61w59 (fun _ _ _ h => h) (Or.inl ⟨?w61w59, ?y61w59⟩) (by assumption) ?t61w59
            case h61w59 => simp only [List.getElem?_toArray]; rfl
            case f61w59 => kernel_rfl
            case r61w59 => kernel_rfl
            case w61w59 => rfl
            case y61w59 => (intro u hu; (go_simp) <;> with_reducible rfl)
            try simp only [Act.put, List.setIfInBounds_toArray, List.set_cons_zero, List.set_cons_succ]
            refine wpAnyH_take (i := 7) (oi := ?o71w60) (v := ?v71w60) ?h71w60 (by kernel_rfl) ?f71w60 ?r71w60 (fun _ _ _ h => h) (Or.inl ⟨?w71w60, ?y71w60⟩) (by assumption) ?t71w60
            case h71w60 => simp only [List.getElem?_toArray]; rfl
            case f71w60 => kernel_rfl
            case r71w60 => kernel_rfl
            case w71w60 => rfl
            case y71w60 => (intro u hu; (go_simp) <;> with_reducible rfl)
            try simp only [Act.put, List.setIfInBounds_toArray, List.set_cons_zero, List.set_cons_succ]
            refine wpAnyH_take (i := 8) (oi := ?o81w61) (v := ?v81w61) ?h81w61 (by kernel_rfl) ?f81w61 ?r81w61 (fun _ _ _ h => h) (Or.inl ⟨?w81w61, ?y81w61⟩) (by assumption) ?t81w61
            case h81w61 => simp only [List.getElem?_toArray]; rfl
            case f81w61 => kernel_rfl
            case r81w61 => kernel_rfl
            case w81w61 => rfl
            case y81w61 => (intro u hu; (go_simp) <;> with_reducible rfl)
            try simp only [Act.put, List.setIfInBounds_toArray, List.set_cons_zero, List.set_cons_succ]
            refine wpAnyH_ready (rs := [10]) (by kernel_rfl) (by simp) ?_
            refine AllReadyH.cons (o := ?o101w62) ?h101w62 (fun K hK => ?_) AllReadyH.nil
            case h101w62 => simp only [List.getElem?_toArray]; rfl
            go_simp
            have hL8 : W0.heap.size ≤ y1w58.heap.size := hH.size
            have lt7_8 : b7w < y1w58.heap.size := O7w.out.lt
            refine hK.out _ _ (hH.trans (bel1 _ _)) (fun hH' => ?_)
            clear hK K hH
            have hH := hH'
            clear hH'
            try simp only [List.setIfInBounds_toArray, List.set]
            have O8w : Hid (Own (y1w58.alloc (.cells #[.int .u64 0, .int .u64 0, .int .u64 0, .int .u64 0] 28)) y1w58.heap.size) := own_new y1w58 _ _ _ _ _
            replace O7w : Hid (Own (y1w58.alloc (.cells #[.int .u64 0, .int .u64 0, .int .u64 0, .int .u64 0] 28)) b7w) := O7w.out.later (bel1 _ _)
            generalize y1w58.alloc (.cells #[.int .u64 0, .int .u64 0, .int .u64 0, .int .u64 0] 28) = x1w62 at *
            generalize y1w58.heap.size = b8w at *
            have hg8 : W0.heap.size ≤ b8w := hL8
            obtain ⟨⟨_, nc0⟩, ⟨_, nc1⟩, ⟨_, nc2⟩, ⟨_, nc3⟩, nf0, nf1, nf2, nf3⟩ := O7w.out
            refine wpAnyH_ready (rs := [11]) (by kernel_rfl) (by simp) ?_
            refine AllReadyH.cons (o := ?o111w63) ?h111w63 (fun K hK => ?_) AllReadyH.nil
            case h111w63 => simp only [List.getElem?_toArray]; rfl
            go_simp
            refine hK.out _ _ (hH.set4 _ (by omega) _ _ _ _) (fun hH' => ?_)
            clear hK K hH
            have hH := hH'
            clear hH'
            try simp only [List.setIfInBounds_toArray, List.set]
            have V7w : Hid (Var ((((x1w62.setCell ⟨b7w, 0, none⟩ (.int .u64 (e0 z13))).setCell ⟨b7w, 1, none⟩ (.int .u64 (e1 z13))).setCell ⟨b7w, 2, none⟩ (.int .u64 (e2 z13))).setCell ⟨b7w, 3, none⟩ (.int .u64 (e3 z13))) b7w z13) := var_set x1w62 b7w z13 O7w.out
            replace O8w : Hid (Own ((((x1w62.setCell ⟨b7w, 0, none⟩ (.int .u64 (e0 z13))).setCell ⟨b7w, 1, none⟩ (.int .u64 (e1 z13))).setCell ⟨b7w, 2, none⟩ (.int .u64 (e2 z13))).setCell ⟨b7w, 3, none⟩ (.int .u64 (e3 z13))) b8w) := own_other O8w.out (by omega) _ _ _ _
            replace O7w : Hid (Own ((((x1w62.setCell ⟨b7w, 0, none⟩ (.int .u64 (e0 z13))).setCell ⟨b7w, 1, none⟩ (.int .u64 (e1 z13))).setCell ⟨b7w, 2, none⟩ (.int .u64 (e2 z13))).setCell ⟨b7w, 3, none⟩ (.int .u64 (e3 z13))) b7w) := own_set O7w.out _ _ _ _
            clear nc0 nc1 nc2 nc3 nf0 nf1 nf2 nf3
            generalize (((x1w62.setCell ⟨b7w, 0, none⟩ (.int .u64 (e0 z13))).setCell ⟨b7w, 1, none⟩ (.int .u64 (e1 z13))).setCell ⟨b7w, 2, none⟩ (.int .u64 (e2 z13))).setCell ⟨b7w, 3, none⟩ (.int .u64 (e3 z13)) = x1w63 at *
            obtain ⟨⟨_, nc0⟩, ⟨_, nc1⟩, ⟨_, nc2⟩, ⟨_, nc3⟩, nf0, nf1, nf2, nf3⟩ := O8w.out
            refine wpAnyH_ready (rs := [12]) (by kernel_rfl) (by simp) ?_
            refine AllReadyH.cons (o := ?o121w64) ?h121w64 (fun K hK => ?_) AllReadyH.nil
            case h121w64 => simp only [List.getElem?_toArray]; rfl
            go_simp
            refine hK.out _ _ (hH.set4 _ (by omega) _ _ _ _) (fun hH' => ?_)
            clear hK K hH
            have hH := hH'
            clear hH'
            try simp only [List.setIfInBounds_toArray, List.set]
            have V8w : Hid (Var ((((x1w63.setCell ⟨b8w, 0, none⟩ (.int .u64 (e0 z11))).setCell ⟨b8w, 1, none⟩ (.int .u64 (e1 z11))).setCell ⟨b8w, 2, none⟩ (.int .u64 (e2 z11))).setCell ⟨b8w, 3, none⟩ (.int .u64 (e3 z11))) b8w z11) := var_set x1w63 b8w z11 O8w.out
            replace V7w : Hid (Var ((((x1w63.setCell ⟨b8w, 0, none⟩ (.int .u64 (e0 z11))).setCell ⟨b8w, 1, none⟩ (.int .u64 (e1 z11))).setCell ⟨b8w, 2, none⟩ (.int .u64 (e2 z11))).setCell ⟨b8w, 3, none⟩ (.int .u64 (e3 z11))) b7w z13) := var_other V7w.out (by omega) _ _ _ _
            replace O7w : Hid (Own ((((x1w63.setCell ⟨b8w, 0, none⟩ (.int .u64 (e0 z11))).setCell ⟨b8w, 1, none⟩ (.int .u64 (e1 z11))).setCell ⟨b8w, 2, none⟩ (.int .u64 (e2 z11))).setCell ⟨b8w, 3, none⟩ (.int .u64 (e3 z11))) b7w) := own_other O7w.out (by omega) _ _ _ _
            replace O8w : Hid (Own ((((x1w63.setCell ⟨b8w, 0, none⟩ (.int .u64 (e0 z11))).setCell ⟨b8w, 1, none⟩ (.int .u64 (e1 z11))).setCell ⟨b8w, 2, none⟩ (.int .u64 (e2 z11))).setCell ⟨b8w, 3, none⟩ (.int .u64 (e3 z11))) b8w) := own_set O8w.out _ _ _ _
            clear nc0 nc1 nc2 nc3 nf0 nf1 nf2 nf3
            generalize (((x1w63.setCell ⟨b8w, 0, none⟩ (.int .u64 (e0 z11))).setCell ⟨b8w, 1, none⟩ (.int .u64 (e1 z11))).setCell ⟨b8w, 2, none⟩ (.int .u64 (e2 z11))).setCell ⟨b8w, 3, none⟩ (.int .u64 (e3 z11)) = x1w64 at *
            refine wpAnyH_done (by kernel_rfl) ?_ _
            refine NoPanic.normal ?_
            go_wp2_with fail
            go_meet
            case rel => exact ⟨_, _, _, _, rfl, hz13, Hz13, V7w, hg7, O7w, rfl, hz11, Hz11, V8w, hg8, O8w, (by omega), hH⟩
          case c101w57 =>
            go_simp
            have hL8 : W0.heap.size ≤ y1w56.heap.size := hH.size
            have lt7_8 : b7w < y1w56.heap.size := O7w.out.lt
            refine hK.out _ _ (hH.trans (bel1 _ _)) (fun hH' => ?_)
            clear hK K hH
            have hH := hH'
            clear hH'
            try simp only [List.setIfInBounds_toArray, List.set]
            have O8w : Hid (Own (y1w56.alloc (.cells #[.int .u64 0, .int .u64 0, .int .u64 0, .int .u64 0] 28)) y1w56.heap.size) := own_new y1w56 _ _ _ _ _
            replace O7w : Hid (Own (y1w56.alloc (.cells #[.int .u64 0, .int .u64 0, .int .u64 0, .int .u64 0] 28)) b7w) := O7w.out.later (bel1 _ _)
            generalize y1w56.alloc (.cells #[.int .u64 0, .int .u64 0, .int .u64 0, .int .u64 0] 28) = x1w65 at *
            generalize y1w56.heap.size = b8w at *
            have hg8 : W0.heap.size ≤ b8w := hL8
            refine wpAnyH_ready (rs := [5]) (by kernel_rfl) (by simp) ?_
            refine AllReadyH.cons (o := ?o51w66) ?h51w66 (fun K hK => ?_) AllReadyH.nil
            case h51w66 => simp only [List.getElem?_toArray]; rfl
            go_simp
            refine (swap_odd z11 z13 n hz11 hz13 hn hp.out _).mono ?_
            rintro e y1w66 ⟨rfl, hb1w66⟩
            refine hK.out _ _ (hH.trans hb1w66) (fun hH' => ?_)
            clear hK K hH
            have hH := hH'
            clear hH'
            try simp only [List.setIfInBounds_toArray, List.set]
            replace O7w : Hid (Own y1w66 b7w) := O7w.out.later hb1w66
            replace O8w : Hid (Own y1w66 b8w) := O8w.out.later hb1w66
            clear hb1w66
            refine wpAnyH_take (i := 6) (oi := ?o61w67) (v := ?v61w67) ?h61w67 (by kernel_rfl) ?f61w67 ?r61w67 (fun _ _ _ h => h) (Or.inl ⟨?w61w67, ?y61w67⟩) (by assumption) ?t61w67
            case h61w67 => simp only [List.getElem?_toArray]; rfl
            case f61w67 => kernel_rfl
            case r61w67 => kernel_rfl
            case w61w67 => rfl
            case y61w67 => (intro u hu; (go_simp) <;> with_reducible rfl)
            try simp only [Act.put, List.setIfInBounds_toArray, List.set_cons_zero, List.set_cons_succ]
            refine wpAnyH_take (i := 7) (oi := ?o71w68) (v := ?v71w68) ?h71w68 (by kernel_rfl) ?f71w68 ?r71w68 (fun _ _ _ h => h) (Or.inl ⟨?w71w68, ?y71w68⟩) (by assumption) ?t71w68
            case h71w68 => simp only [List.getElem?_toArray]; rfl
            case f71w68 => kernel_rfl
            case r71w68 => kernel_rfl
            case w71w68 => rfl
            case y71w68 => (intro u hu; (go_simp) <;> with_reducible rfl)
            try simp only [Act.put, List.setIfInBounds_toArray, List.set_cons_zero, List.set_cons_succ]
            refine wpAnyH_take (i := 8) (oi := ?o81w69) (v := ?v81w69) ?h81w69 (by kernel_rfl) ?f81w69 ?r81w69 (fun _ _ _ h => h) (Or.inl ⟨?w81w69, ?y81w69⟩) (by assumption) ?t81w69
            case h81w69 => simp only [List.getElem?_toArray]; rfl
            case f81w69 => kernel_rfl
            case r81w69 => kernel_rfl
            case w81w69 => rfl
            case y81w69 => (intro u hu; (go_simp) <;> with_reducible rfl)
            try simp only [Act.put, List.setIfInBounds_toArray, List.set_cons_zero, List.set_cons_succ]
            obtain ⟨⟨_, nc0⟩, ⟨_, nc1⟩, ⟨_, nc2⟩, ⟨_, nc3⟩, nf0, nf1, nf2, nf3⟩ := O7w.out
            refine wpAnyH_ready (rs := [11]) (by kernel_rfl) (by simp) ?_
            refine AllReadyH.cons (o := ?o111w70) ?h111w70 (fun K hK => ?_) AllReadyH.nil
            case h111w70 => simp only [List.getElem?_toArray]; rfl
            go_simp
            refine hK.out _ _ (hH.set4 _ (by omega) _ _ _ _) (fun hH' => ?_)
            clear hK K hH
            have hH := hH'
            clear hH'
            try simp only [List.setIfInBounds_toArray, List.set]
            have V7w : Hid (Var ((((y1w66.setCell ⟨b7w, 0, none⟩ (.int .u64 (e0 z13))).setCell ⟨b7w, 1, none⟩ (.int .u64 (e1 z13))).setCell ⟨b7w, 2, none⟩ (.int .u64 (e2 z13))).setCell ⟨b7w, 3, none⟩ (.int .u64 (e3 z13))) b7w z13) := var_set y1w66 b7w z13 O7w.out
            replace O8w : Hid (Own ((((y1w66.setCell ⟨b7w, 0, none⟩ (.int .u64 (e0 z13))).setCell ⟨b7w, 1, none⟩ (.int .u64 (e1 z13))).setCell ⟨b7w, 2, none⟩ (.int .u64 (e2 z13))).setCell ⟨b7w, 3, none⟩ (.int .u64 (e3 z13))) b8w) := own_other O8w.out (by omega) _ _ _ _
            replace O7w : Hid (Own ((((y1w66.setCell ⟨b7w, 0, none⟩ (.int .u64 (e0 z13))).setCell ⟨b7w, 1, none⟩ (.int .u64 (e1 z13))).setCell ⟨b7w, 2, none⟩ (.int .u64 (e2 z13))).setCell ⟨b7w, 3, none⟩ (.int .u64 (e3 z13))) b7w) := own_set O7w.out _ _ _ _
            clear nc0 nc1 nc2 nc3 nf0 nf1 nf2 nf3
            generalize (((y1w66.setCell ⟨b7w, 0, none⟩ (.int .u64 (e0 z13))).setCell ⟨b7w, 1, none⟩ (.int .u64 (e1 z13))).setCell ⟨b7w, 2, none⟩ (.int .u64 (e2 z13))).setCell ⟨b7w, 3, none⟩ (.int .u64 (e3 z13)) = x1w70 at *
            obtain ⟨⟨_, nc0⟩, ⟨_, nc1⟩, ⟨_, nc2⟩, ⟨_, nc3⟩, nf0, nf1, nf2, nf3⟩ := O8w.out
            refine wpAnyH_ready (rs := [12]) (by kernel_rfl) (by simp) ?_
            refine AllReadyH.cons (o := ?o121w71) ?h121w71 (fun K hK => ?_) AllReadyH.nil
            case h121w71 => simp only [List.getElem?_toArray]; rfl
            go_simp
            refine hK.out _ _ (hH.set4 _ (by omega) _ _ _ _) (fun hH' => ?_)
            clear hK K hH
            have hH := hH'
            clear hH'
            try simp only [List.setIfInBounds_toArray, List.set]
            have V8w : Hid (Var ((((x1w70.setCell ⟨b8w, 0, none⟩ (.int .u64 (e0 z11))).setCell ⟨b8w, 1, none⟩ (.int .u64 (e1 z11))).setCell ⟨b8w, 2, none⟩ (.int .u64 (e2 z11))).setCell ⟨b8w, 3, none⟩ (.int .u64 (e3 z11))) b8w z11) := var_set x1w70 b8w z11 O8w.out
            replace V7w : Hid (Var ((((x1w70.setCell ⟨b8w, 0, none⟩ (.int .u64 (e0 z11))).setCell ⟨b8w, 1, none⟩ (.int .u64 (e1 z11))).setCell ⟨b8w, 2, none⟩ (.int .u64 (e2 z11))).setCell ⟨b8w, 3, none⟩ (.int .u64 (e3 z11))) b7w z13) := var_other V7w.out (by omega) _ _ _ _
            replace O7w : Hid (Own ((((x1w70.setCell ⟨b8w, 0, none⟩ (.int .u64 (e0 z11))).setCell ⟨b8w, 1, none⟩ (.int .u64 (e1 z11))).setCell ⟨b8w, 2, none⟩ (.int .u64 (e2 z11))).setCell ⟨b8w, 3, none⟩ (.int .u64 (e3 z11))) b7w) := own_other O7w.out (by omega) _ _ _ _
            replace O8w : Hid (Own ((((x1w70.setCell ⟨b8w, 0, none⟩ (.int .u64 (e0 z11))).setCell ⟨b8w, 1, none⟩ (.int .u64 (e1 z11))).setCell ⟨b8w, 2, none⟩ (.int .u64 (e2 z11))).setCell ⟨b8w, 3, none⟩ (.int .u64 (e3 z11))) b8w) := own_set O8w.out _ _ _ _
            clear nc0 nc1 nc2 nc3 nf0 nf1 nf2 nf3
            generalize (((x1w70.setCell ⟨b8w, 0, none⟩ (.int .u64 (e0 z11))).setCell ⟨b8w, 1, none⟩ (.int .u64 (e1 z11))).setCell ⟨b8w, 2, none⟩ (.int .u64 (e2 z11))).setCell ⟨b8w, 3, none⟩ (.int .u64 (e3 z11)) = x1w71 at *
            refine wpAnyH_done (by kernel_rfl) ?_ _
            refine NoPanic.normal ?_
            go_wp2_with fail
            go_meet
            case rel => exact ⟨_, _, _, _, rfl, hz13, Hz13, V7w, hg7, O7w, rfl, hz11, Hz11, V8w, hg8, O8w, (by omega), hH⟩
        case c101w55 =>
          go_simp
          have hL8 : W0.heap.size ≤ x1w54.heap.size := hH.size
          have lt7_8 : b7w < x1w54.heap.size := O7w.out.lt
          refine hK.out _ _ (hH.trans (bel1 _ _)) (fun hH' => ?_)
          clear hK K hH
          have hH := hH'
          clear hH'
          try simp only [List.setIfInBounds_toArray, List.set]
          have O8w : Hid (Own (x1w54.alloc (.cells #[.int .u64 0, .int .u64 0, .int .u64 0, .int .u64 0] 28)) x1w54.heap.size) := own_new x1w54 _ _ _ _ _
          replace O7w : Hid (Own (x1w54.alloc (.cells #[.int .u64 0, .int .u64 0, .int .u64 0, .int .u64 0] 28)) b7w) := O7w.out.later (bel1 _ _)
          generalize x1w54.alloc (.cells #[.int .u64 0, .int .u64 0, .int .u64 0, .int .u64 0] 28) = x1w72 at *
          generalize x1w54.heap.size = b8w at *
          have hg8 : W0.heap.size ≤ b8w := hL8
          refine wpAnyH_ready (rs := [3]) (by kernel_rfl) (by simp) ?_
          refine AllReadyH.cons (o := ?o31w73) ?h31w73 (fun K hK => ?_) AllReadyH.nil
          case h31w73 => simp only [List.getElem?_toArray]; rfl
          go_simp
          refine (from_e b hb _).mono ?_
          rintro e y1w73 ⟨z13, rfl, hz13, Hz13, hb1w73⟩
          refine hK.out _ _ (hH.trans hb1w73) (fun hH' => ?_)
          clear hK K hH
          have hH := hH'
          clear hH'
          try simp only [List.setIfInBounds_toArray, List.set]
          replace O7w : Hid (Own y1w73 b7w) := O7w.out.later hb1w73
          replace O8w : Hid (Own y1w73 b8w) := O8w.out.later hb1w73
          clear hb1w73
          refine wpAnyH_ready (rs := [5]) (by kernel_rfl) (by simp) ?_
          refine AllReadyH.cons (o := ?o51w74) ?h51w74 (fun K hK => ?_) AllReadyH.nil
          case h51w74 => simp only [List.getElem?_toArray]; rfl
          go_simp
          refine (swap_odd z11 z13 n hz11 hz13 hn hp.out _).mono ?_
          rintro e y1w74 ⟨rfl, hb1w74⟩
          refine hK.out _ _ (hH.trans hb1w74) (fun hH' => ?_)
          clear hK K hH
          have hH := hH'
          clear hH'
          try simp only [List.setIfInBounds_toArray, List.set]
          replace O7w : Hid (Own y1w74 b7w) := O7w.out.later hb1w74
          replace O8w : Hid (Own y1w74 b8w) := O8w.out.later hb1w74
          clear hb1w74
          refine wpAnyH_take (i := 6) (oi := ?o61w75) (v := ?v61w75) ?h61w75 (by kernel_rfl) ?f61w75 ?r61w75 (fun _ _ _ h => h) (Or.inl ⟨?w61w75, ?y61w75⟩) (by assumption) ?t61w75
          case h61w75 => simp only [List.getElem?_toArray]; rfl
          case f61w75 => kernel_rfl
          case r61w75 => kernel_rfl
          case w61w75 => rfl
          case y61w75 => (intro u hu; (go_simp) <;> with_reducible rfl)
          try simp only [Act.put, List.setIfInBounds_toArray, List.set_cons_zero, List.set_cons_succ]
          refine wpAnyH_take (i := 7) (oi := ?o71w76) (v := ?v71w76) ?h71w76 (by kernel_rfl) ?f71w76 ?r71w76 (fun _ _ _ h => h) (Or.inl ⟨?w71w76, ?y71w76⟩) (by assumption) ?t71w76
          case h71w76 => simp only [List.getElem?_toArray]; rfl
          case f71w76 => kernel_rfl
          case r71w76 => kernel_rfl
          case w71w76 => rfl
          case y71w76 => (intro u hu; (go_simp) <;> with_reducible rfl)
          try simp only [Act.put, List.setIfInBounds_toArray, List.set_cons_zero, List.set_cons_succ]
          refine wpAnyH_take (i := 8) (oi := ?o81w77) (v := ?v81w77) ?h81w77 (by kernel_rfl) ?f81w77 ?r81w77 (fun _ _ _ h => h) (Or.inl ⟨?w81w77, ?y81w77⟩) (by assumption) ?t81w77
          case h81w77 => simp only [List.getElem?_toArray]; rfl
          case f81w77 => kernel_rfl
          case r81w77 => kernel_rfl
          case w81w77 => rfl
          case y81w77 => (intro u hu; (go_simp) <;> with_reducible rfl)
          try simp only [Act.put, List.setIfInBounds_toArray, List.set_cons_zero, List.set_cons_succ]
          obtain ⟨⟨_, nc0⟩, ⟨_, nc1⟩, ⟨_, nc2⟩, ⟨_, nc3⟩, nf0, nf1, nf2, nf3⟩ := O7w.out
          refine wpAnyH_ready (rs := [11]) (by kernel_rfl) (by simp) ?_
          refine AllReadyH.cons (o := ?o111w78) ?h111w78 (fun K hK => ?_) AllReadyH.nil
          case h111w78 => simp only [List.getElem?_toArray]; rfl
          go_simp
          refine hK.out _ _ (hH.set4 _ (by omega) _ _ _ _) (fun hH' => ?_)
          clear hK K hH
          have hH := hH'
          clear hH'
          try simp only [List.setIfInBounds_toArray, List.set]
          have V7w : Hid (Var ((((y1w74.setCell ⟨b7w, 0, none⟩ (.int .u64 (e0 z13))).setCell ⟨b7w, 1, none⟩ (.int .u64 (e1 z13))).setCell ⟨b7w, 2, none⟩ (.int .u64 (e2 z13))).setCell ⟨b7w, 3, none⟩ (.int .u64 (e3 z13))) b7w z13) := var_set y1w74 b7w z13 O7w.out
          replace O8w : Hid (Own ((((y1w74.setCell ⟨b7w, 0, none⟩ (.int .u64 (e0 z13))).setCell ⟨b7w, 1, none⟩ (.int .u64 (e1 z13))).setCell ⟨b7w, 2, none⟩ (.int .u64 (e2 z13))).setCell ⟨b7w, 3, none⟩ (.int .u64 (e3 z13))) b8w) := own_other O8w.out (by omega) _ _ _ _
          replace O7w : Hid (Own ((((y1w74.setCell ⟨b7w, 0, none⟩ (.int .u64 (e0 z13))).setCell ⟨b7w, 1, none⟩ (.int .u64 (e1 z13))).setCell ⟨b7w, 2, none⟩ (.int .u64 (e2 z13))).setCell ⟨b7w, 3, none⟩ (.int .u64 (e3 z13))) b7w) := own_set O7w.out _ _ _ _
          clear nc0 nc1 nc2 nc3 nf0 nf1 nf2 nf3
          generalize (((y1w74.setCell ⟨b7w, 0, none⟩ (.int .u64 (e0 z13))).setCell ⟨b7w, 1, none⟩ (.int .u64 (e1 z13))).setCell ⟨b7w, 2, none⟩ (.int .u64 (e2 z13))).setCell ⟨b7w, 3, none⟩ (.int .u64 (e3 z13)) = x1w78 at *
          obtain ⟨⟨_, nc0⟩, ⟨_, nc1⟩, ⟨_, nc2⟩, ⟨_, nc3⟩, nf0, nf1, nf2, nf3⟩ := O8w.out
          refine wpAnyH_ready (rs := [12]) (by kernel_rfl) (by simp) ?_
          refine AllReadyH.cons (o := ?o121w79) ?h121w79 (fun K hK => ?_) AllReadyH.nil
          case h121w79 => simp only [List.getElem?_toArray]; rfl
          go_simp
          refine hK.out _ _ (hH.set4 _ (by omega) _ _ _ _) (fun hH' => ?_)
          clear hK K hH
          have hH := hH'
          clear hH'
          try simp only [List.setIfInBounds_toArray, List.set]
          have V8w : Hid (Var ((((x1w78.setCell ⟨b8w, 0, none⟩ (.int .u64 (e0 z11))).setCell ⟨b8w, 1, none⟩ (.int .u64 (e1 z11))).setCell ⟨b8w, 2, none⟩ (.int .u64 (e2 z11))).setCell ⟨b8w, 3, none⟩ (.int .u64 (e3 z11))) b8w z11) := var_set x1w78 b8w z11 O8w.out
          replace V7w : Hid (Var ((((x1w78.setCell ⟨b8w, 0, none⟩ (.int .u64 (e0 z11))).setCell ⟨b8w, 1, none⟩ (.int .u64 (e1 z11))).setCell ⟨b8w, 2, none⟩ (.int .u64 (e2 z11))).setCell ⟨b8w, 3, none⟩ (.int .u64 (e3 z11))) b7w z13) := var_other V7w.out (by omega) _ _ _ _
          replace O7w : Hid (Own ((((x1w78.setCell ⟨b8w, 0, none⟩ (.int .u64 (e0 z11))).setCell ⟨b8w, 1, none⟩ (.int .u64 (e1 z11))).setCell ⟨b8w, 2, none⟩ (.int .u64 (e2 z11))).setCell ⟨b8w, 3, none⟩ (.int .u64 (e3 z11))) b7w) := own_other O7w.out (by omega) _ _ _ _
          replace O8w : Hid (Own ((((x1w78.setCell ⟨b8w, 0, none⟩ (.int .u64 (e0 z11))).setCell ⟨b8w, 1, none⟩ (.int .u64 (e1 z11))).setCell ⟨b8w, 2, none⟩ (.int .u64 (e2 z11))).setCell ⟨b8w, 3, none⟩ (.int .u64 (e3 z11))) b8w) := own_set O8w.out _ _ _ _
          clear nc0 nc1 nc2 nc3 nf0 nf1 nf2 nf3
          generalize (((x1w78.setCell ⟨b8w, 0, none⟩ (.int .u64 (e0 z11))).setCell ⟨b8w, 1, none⟩ (.int .u64 (e1 z11))).setCell ⟨b8w, 2, none⟩ (.int .u64 (e2 z11))).setCell ⟨b8w, 3, none⟩ (.int .u64 (e3 z11)) = x1w79 at *
          refine wpAnyH_done (by kernel_rfl) ?_ _
          refine NoPanic.normal ?_
          go_wp2_with fail
          go_meet
          case rel => exact ⟨_, _, _, _, rfl, hz13, Hz13, V7w, hg7, O7w, rfl, hz11, Hz11, V8w, hg8, O8w, (by omega), hH⟩
      case c101w6 =>
        go_simp
        have hL8 : W0.heap.size ≤ y1w5.heap.size := hH.size
        refine hK.out _ _ (hH.trans (bel1 _ _)) (fun hH' => ?_)
        clear hK K hH
        have hH := hH'
        clear hH'
        try simp only [List.setIfInBounds_toArray, List.set]
        have O8w : Hid (Own (y1w5.alloc (.cells #[.int .u64 0, .int .u64 0, .int .u64 0, .int .u64 0] 28)) y1w5.heap.size) := own_new y1w5 _ _ _ _ _
        generalize y1w5.alloc (.cells #[.int .u64 0, .int .u64 0, .int .u64 0, .int .u64 0] 28) = x1w80 at *
        generalize y1w5.heap.size = b8w at *
        have hg8 : W0.heap.size ≤ b8w := hL8
        refine wpAnyH_ready (rs := [3, 9]) (by kernel_rfl) (by simp) ?_
        refine AllReadyH.cons (o := ?o31w81) ?h31w81 (fun K hK => ?c31w81) (AllReadyH.cons (o := ?o91w81) ?h91w81 (fun K hK => ?c91w81) AllReadyH.nil)
        case h31w81 => simp only [List.getElem?_toArray]; rfl
        case h91w81 => simp only [List.getElem?_toArray]; rfl
        case c31w81 =>
          go_simp
          refine (from_e b hb _).mono ?_
          rintro e y1w82 ⟨z13, rfl, hz13, Hz13, hb1w82⟩
          refine hK.out _ _ (hH.trans hb1w82) (fun hH' => ?_)
          clear hK K hH
          have hH := hH'
          clear hH'
          try simp only [List.setIfInBounds_toArray, List.set]
          replace O8w : Hid (Own y1w82 b8w) := O8w.out.later hb1w82
          clear hb1w82
          refine wpAnyH_ready (rs := [5, 9]) (by kernel_rfl) (by simp) ?_
          refine AllReadyH.cons (o := ?o51w83) ?h51w83 (fun K hK => ?c51w83) (AllReadyH.cons (o := ?o91w83) ?h91w83 (fun K hK => ?c91w83) AllReadyH.nil)
          case h51w83 => simp only [List.getElem?_toArray]; rfl
          case h91w83 => simp only [List.getElem?_toArray]; rfl
          case c51w83 =>
            go_simp
            refine (swap_odd z11 z13 n hz11 hz13 hn hp.out _).mono ?_
            rintro e y1w84 ⟨rfl, hb1w84⟩
            refine hK.out _ _ (hH.trans hb1w84) (fun hH' => ?_)
            clear hK K hH
            have hH := hH'
            clear hH'
            try simp only [List.setIfInBounds_toArray, List.set]
            replace O8w : Hid (Own y1w84 b8w) := O8w.out.later hb1w84
            clear hb1w84
            refine wpAnyH_take (i := 6) (oi := ?o61w85) (v := ?v61w85) ?h61w85 (by kernel_rfl) ?f61w85 ?r61w85 (fun _ _ _ h => h) (Or.inl ⟨?w61w85, ?y61w85⟩) (by assumption) ?t61w85
            case h61w85 => simp only [List.getElem?_toArray]; rfl
            case f61w85 => kernel_rfl
            case r61w85 => kernel_rfl
            case w61w85 => rfl
            case y61w85 => (intro u hu; (go_simp) <;> with_reducible rfl)
            try simp only [Act.put, List.setIfInBounds_toArray, List.set_cons_zero, List.set_cons_succ]
            refine wpAnyH_take (i := 7) (oi := ?o71w86) (v := ?v71w86) ?h71w86 (by kernel_rfl) ?f71w86 ?r71w86 (fun _ _ _ h => h) (Or.inl ⟨?w71w86, ?y71w86⟩) (by assumption) ?t71w86
            case h71w86 => simp only [List.getElem?_toArray]; rfl
            case f71w86 => kernel_rfl
            case r71w86 => kernel_rfl
            case w71w86 => rfl
            case y71w86 => (intro u hu; (go_simp) <;> with_reducible rfl)
            try simp only [Act.put, List.setIfInBounds_toArray, List.set_cons_zero, List.set_cons_succ]
            refine wpAnyH_take (i := 8) (oi := ?o81w87) (v := ?v81w87) ?h81w87 (by kernel_rfl) ?f81w87 ?r81w87 (fun _ _ _ h => h) (Or.inl ⟨?w81w87, ?y81w87⟩) (by assumption) ?t81w87
            case h81w87 => simp only [List.getElem?_toArray]; rfl
            case f81w87 => kernel_rfl
            case r81w87 => kernel_rfl
            case w81w87 => rfl
            case y81w87 => (intro u hu; (go_simp) <;> with_reducible rfl)
            try simp only [Act.put, List.setIfInBounds_toArray, List.set_cons_zero, List.set_cons_succ]
            refine wpAnyH_ready (rs := [9]) (by kernel_rfl) (by simp) ?_
            refine AllReadyH.cons (o := ?o91w88) ?h91w88 (fun K hK => ?_) AllReadyH.nil
            case h91w88 => simp only [List.getElem?_toArray]; rfl
            go_simp
            have hL7 : W0.heap.size ≤ y1w84.heap.size := hH.size
            have lt8_7 : b8w < y1w84.heap.size := O8w.out.lt
            refine hK.out _ _ (hH.trans (bel1 _ _)) (fun hH' => ?_)
            clear hK K hH
            have hH := hH'
            clear hH'
            try simp only [List.setIfInBounds_toArray, List.set]
            have O7w : Hid (Own (y1w84.alloc (.cells #[.int .u64 0, .int .u64 0, .int .u64 0, .int .u64 0] 28)) y1w84.heap.size) := own_new y1w84 _ _ _ _ _
            replace O8w : Hid (Own (y1w84.alloc (.cells #[.int .u64 0, .int .u64 0, .int .u64 0, .int .u64 0] 28)) b8w) := O8w.out.later (bel1 _ _)
            generalize y1w84.alloc (.cells #[.int .u64 0, .int .u64 0, .int .u64 0, .int .u64 0] 28) = x1w88 at *
            generalize y1w84.heap.size = b7w at *
            have hg7 : W0.heap.size ≤ b7w := hL7
            obtain ⟨⟨_, nc0⟩, ⟨_, nc1⟩, ⟨_, nc2⟩, ⟨_, nc3⟩, nf0, nf1, nf2, nf3⟩ := O7w.out
            refine wpAnyH_ready (rs := [11]) (by kernel_rfl) (by simp) ?_
            refine AllReadyH.cons (o := ?o111w89) ?h111w89 (fun K hK => ?_) AllReadyH.nil
            case h111w89 => simp only [List.getElem?_toArray]; rfl
            go_simp
            refine hK.out _ _ (hH.set4 _ (by omega) _ _ _ _) (fun hH' => ?_)
            clear hK K hH
            have hH := hH'
            clear hH'
            try simp only [List.setIfInBounds_toArray, List.set]
            have V7w : Hid (Var ((((x1w88.setCell ⟨b7w, 0, none⟩ (.int .u64 (e0 z13))).setCell ⟨b7w, 1, none⟩ (.int .u64 (e1 z13))).setCell ⟨b7w, 2, none⟩ (.int .u64 (e2 z13))).setCell ⟨b7w, 3, none⟩ (.int .u64 (e3 z13))) b7w z13) := var_set x1w88 b7w z13 O7w.out
            replace O8w : Hid (Own ((((x1w88.setCell ⟨b7w, 0, none⟩ (.int .u64 (e0 z13))).setCell ⟨b7w, 1, none⟩ (.int .u64 (e1 z13))).setCell ⟨b7w, 2, none⟩ (.int .u64 (e2 z13))).setCell ⟨b7w, 3, none⟩ (.int .u64 (e3 z13))) b8w) := own_other O8w.out (by omega) _ _ _ _
            replace O7w : Hid (Own ((((x1w88.setCell ⟨b7w, 0, none⟩ (.int .u64 (e0 z13))).setCell ⟨b7w, 1, none⟩ (.int .u64 (e1 z13))).setCell ⟨b7w, 2, none⟩ (.int .u64 (e2 z13))).setCell ⟨b7w, 3, none⟩ (.int .u64 (e3 z13))) b7w) := own_set O7w.out _ _ _ _
            clear nc0 nc1 nc2 nc3 nf0 nf1 nf2 nf3
            generalize (((x1w88.setCell ⟨b7w, 0, none⟩ (.int .u64 (e0 z13))).setCell ⟨b7w, 1, none⟩ (.int .u64 (e1 z13))).setCell ⟨b7w, 2, none⟩ (.int .u64 (e2 z13))).setCell ⟨b7w, 3, none⟩ (.int .u64 (e3 z13)) = x1w89 at *
            obtain ⟨⟨_, nc0⟩, ⟨_, nc1⟩, ⟨_, nc2⟩, ⟨_, nc3⟩, nf0, nf1, nf2, nf3⟩ := O8w.out
            refine wpAnyH_ready (rs := [12]) (by kernel_rfl) (by simp) ?_
            refine AllReadyH.cons (o := ?o121w90) ?h121w90 (fun K hK => ?_) AllReadyH.nil
            case h121w90 => simp only [List.getElem?_toArray]; rfl
            go_simp
            refine hK.out _ _ (hH.set4 _ (by omega) _ _ _ _) (fun hH' => ?_)
            clear hK K hH
            have hH := hH'
            clear hH'
            try simp only [List.setIfInBounds_toArray, List.set]
            have V8w : Hid (Var ((((x1w89.setCell ⟨b8w, 0, none⟩ (.int .u64 (e0 z11))).setCell ⟨b8w, 1, none⟩ (.int .u64 (e1 z11))).setCell ⟨b8w, 2, none⟩ (.int .u64 (e2 z11))).setCell ⟨b8w, 3, none⟩ (.int .u64 (e3 z11))) b8w z11) := var_set x1w89 b8w z11 O8w.out
            replace V7w : Hid (Var ((((x1w89.setCell ⟨b8w, 0, none⟩ (.int .u64 (e0 z11))).setCell ⟨b8w, 1, none⟩ (.int .u64 (e1 z11))).setCell ⟨b8w, 2, none⟩ (.int .u64 (e2 z11))).setCell ⟨b8w, 3, none⟩ (.int .u64 (e3 z11))) b7w z13) := var_other V7w.out (by omega) _ _ _ _
            replace O7w : Hid (Own ((((x1w89.setCell ⟨b8w, 0, none⟩ (.int .u64 (e0 z11))).setCell ⟨b8w, 1, none⟩ (.int .u64 (e1 z11))).setCell ⟨b8w, 2, none⟩ (.int .u64 (e2 z11))).setCell ⟨b8w, 3, none⟩ (.int .u64 (e3 z11))) b7w) := own_other O7w.out (by omega) _ _ _ _
            replace O8w : Hid (Own ((((x1w89.setCell ⟨b8w, 0, none⟩ (.int .u64 (e0 z11))).setCell ⟨b8w, 1, none⟩ (.int .u64 (e1 z11))).setCell ⟨b8w, 2, none⟩ (.int .u64 (e2 z11))).setCell ⟨b8w, 3, none⟩ (.int .u64 (e3 z11))) b8w) := own_set O8w.out _ _ _ _
            clear nc0 nc1 nc2 nc3 nf0 nf1 nf2 nf3
            generalize (((x1w89.setCell ⟨b8w, 0, none⟩ (.int .u64 (e0 z11))).setCell ⟨b8w, 1, none⟩ (.int .u64 (e1 z11))).setCell ⟨b8w, 2, none⟩ (.int .u64 (e2 z11))).setCell ⟨b8w, 3, none⟩ (.int .u64 (e3 z11)) = x1w90 at *
            refine wpAnyH_done (by kernel_rfl) ?_ _
            refine NoPanic.normal ?_
            go_wp2_with fail
            go_meet
            case rel => exact ⟨_, _, _, _, rfl, hz13, Hz13, V7w, hg7, O7w, rfl, hz11, Hz11, V8w, hg8, O8w, (by omega), hH⟩
          case c91w83 =>
            go_simp
            have hL7 : W0.heap.size ≤ y1w82.heap.size := hH.size
            have lt8_7 : b8w < y1w82.heap.size := O8w.out.lt
            refine hK.out _ _ (hH.trans (bel1 _ _)) (fun hH' => ?_)
            clear hK K hH
            have hH := hH'
            clear hH'
            try simp only [List.setIfInBounds_toArray, List.set]
            have O7w : Hid (Own (y1w82.alloc (.cells #[.int .u64 0, .int .u64 0, .int .u64 0, .int .u64 0] 28)) y1w82.heap.size) := own_new y1w82 _ _ _ _ _
            replace O8w : Hid (Own (y1w82.alloc (.cells #[.int .u64 0, .int .u64 0, .int .u64 0, .int .u64 0] 28)) b8w) := O8w.out.later (bel1 _ _)
            generalize y1w82.alloc (.cells #[.int .u64 0, .int .u64 0, .int .u64 0, .int .u64 0] 28) = x1w91 at *
            generalize y1w82.heap.size = b7w at *
            have hg7 : W0.heap.size ≤ b7w := hL7
            refine wpAnyH_ready (rs := [5]) (by kernel_rfl) (by simp) ?_
            refine AllReadyH.cons (o := ?o51w92) ?h51w92 (fun K hK => ?_) AllReadyH.nil
            case h51w92 => simp only [List.getElem?_toArray]; rfl
            go_simp
            refine (swap_odd z11 z13 n hz11 hz13 hn hp.out _).mono ?_
            rintro e y1w92 ⟨rfl, hb1w92⟩
            refine hK.out _ _ (hH.trans hb1w92) (fun hH' => ?_)
            clear hK K hH
            have hH := hH'
            clear hH'
            try simp only [List.setIfInBounds_toArray, List.set]
            replace O8w : Hid (Own y1w92 b8w) := O8w.out.later hb1w92
            replace O7w : Hid (Own y1w92 b7w) := O7w.out.later hb1w92
            clear hb1w92
            refine wpAnyH_take (i := 6) (oi := ?o61w93) (v := ?v61w93) ?h61w93 (by kernel_rfl) ?f61w93 ?r61w93 (fun _ _ _ h => h) (Or.inl ⟨?w61w93, ?y61w93⟩) (by assumption) ?t61w93
            case h61w93 => simp only [List.getElem?_toArray]; rfl
            case f61w93 => kernel_rfl
            case r61w93 => kernel_rfl
            case w61w93 => rfl
            case y61w93 => (intro u hu; (go_simp) <;> with_reducible rfl)
            try simp only [Act.put, List.setIfInBounds_toArray, List.set_cons_zero, List.set_cons_succ]
            refine wpAnyH_take (i := 7) (oi := ?o71w94) (v := ?v71w94) ?h71w94 (by kernel_rfl) ?f71w94 ?r71w94 (fun _ _ _ h => h) (Or.inl ⟨?w71w94, ?y71w94⟩) (by assumption) ?t71w94
            case h71w94 => simp only [List.getElem?_toArray]; rfl
            case f71w94 => kernel_rfl
            case r71w94 => kernel_rfl
            case w71w94 => rfl
            case y71w94 => (intro u hu; (go_simp) <;> with_reducible rfl)
            try simp only [Act.put, List.setIfInBounds_toArray, List.set_cons_zero, List.set_cons_succ]
            refine wpAnyH_take (i := 8) (oi := ?o81w95) (v := ?v81w95) ?h81w95 (by kernel_rfl) ?f81w95 ?r81w95 (fun _ _ _ h => h) (Or.inl ⟨?w81w95, ?y81w95⟩) (by assumption) ?t81w95
            case h81w95 => simp only [List.getElem?_toArray]; rfl
            case f81w95 => kernel_rfl
            case r81w95 => kernel_rfl
            case w81w95 => rfl
            case y81w95 => (intro u hu; (go_simp) <;> with_reducible rfl)
            try simp only [Act.put, List.setIfInBounds_toArray, List.set_cons_zero, List.set_cons_succ]
            obtain ⟨⟨_, nc0⟩, ⟨_, nc1⟩, ⟨_, nc2⟩, ⟨_, nc3⟩, nf0, nf1, nf2, nf3⟩ := O7w.out
            refine wpAnyH_ready (rs := [11]) (by kernel_rfl) (by simp) ?_
            refine AllReadyH.cons (o := ?o111w96) ?h111w96 (fun K hK => ?_) AllReadyH.nil
            case h111w96 => simp only [List.getElem?_toArray]; rfl
            go_simp
            refine hK.out _ _ (hH.set4 _ (by omega) _ _ _ _) (fun hH' => ?_)
            clear hK K hH
            have hH := hH'
            clear hH'
            try simp only [List.setIfInBounds_toArray, List.set]
            have V7w : Hid (Var ((((y1w92.setCell ⟨b7w, 0, none⟩ (.int .u64 (e0 z13))).setCell ⟨b7w, 1, none⟩ (.int .u64 (e1 z13))).setCell ⟨b7w, 2, none⟩ (.int .u64 (e2 z13))).setCell ⟨b7w, 3, none⟩ (.int .u64 (e3 z13))) b7w z13) := var_set y1w92 b7w z13 O7w.out
            replace O8w : Hid (Own ((((y1w92.setCell ⟨b7w, 0, none⟩ (.int .u64 (e0 z13))).setCell ⟨b7w, 1, none⟩ (.int .u64 (e1 z13))).setCell ⟨b7w, 2, none⟩ (.int .u64 (e2 z13))).setCell ⟨b7w, 3, none⟩ (.int .u64 (e3 z13))) b8w) := own_other O8w.out (by omega) _ _ _ _
            replace O7w : Hid (Own ((((y1w92.setCell ⟨b7w, 0, none⟩ (.int .u64 (e0 z13))).setCell ⟨b7w, 1, none⟩ (.int .u64 (e1 z13))).setCell ⟨b7w, 2, none⟩ (.int .u64 (e2 z13))).setCell ⟨b7w, 3, none⟩ (.int .u64 (e3 z13))) b7w) := own_set O7w.out _ _ _ _
            clear nc0 nc1 nc2 nc3 nf0 nf1 nf2 nf3
            generalize (((y1w92.setCell ⟨b7w, 0, none⟩ (.int .u64 (e0 z13))).setCell ⟨b7w, 1, none⟩ (.int .u64 (e1 z13))).setCell ⟨b7w, 2, none⟩ (.int .u64 (e2 z13))).setCell ⟨b7w, 3, none⟩ (.int .u64 (e3 z13)) = x1w96 at *
            obtain ⟨⟨_, nc0⟩, ⟨_, nc1⟩, ⟨_, nc2⟩, ⟨_, nc3⟩, nf0, nf1, nf2, nf3⟩ := O8w.out
            refine wpAnyH_ready (rs := [12]) (by kernel_rfl) (by simp) ?_
            refine AllReadyH.cons (o := ?o121w97) ?h121w97 (fun K hK => ?_) AllReadyH.nil
            case h121w97 => simp only [List.getElem?_toArray]; rfl
            go_simp
            refine hK.out _ _ (hH.set4 _ (by omega) _ _ _ _) (fun hH' => ?_)
            clear hK K hH
            have hH := hH'
            clear hH'
            try simp only [List.setIfInBounds_toArray, List.set]
            have V8w : Hid (Var ((((x1w96.setCell ⟨b8w, 0, none⟩ (.int .u64 (e0 z11))).setCell ⟨b8w, 1, none⟩ (.int .u64 (e1 z11))).setCell ⟨b8w, 2, none⟩ (.int .u64 (e2 z11))).setCell ⟨b8w, 3, none⟩ (.int .u64 (e3 z11))) b8w z11) := var_set x1w96 b8w z11 O8w.out
            replace V7w : Hid (Var ((((x1w96.setCell ⟨b8w, 0, none⟩ (.int .u64 (e0 z11))).setCell ⟨b8w, 1, none⟩ (.int .u64 (e1 z11))).setCell ⟨b8w, 2, none⟩ (.int .u64 (e2 z11))).setCell ⟨b8w, 3, none⟩ (.int .u64 (e3 z11))) b7w z13) := var_other V7w.out (by omega) _ _ _ _
            replace O7w : Hid (Own ((((x1w96.setCell ⟨b8w, 0, none⟩ (.int .u64 (e0 z11))).setCell ⟨b8w, 1, none⟩ (.int .u64 (e1 z11))).setCell ⟨b8w, 2, none⟩ (.int .u64 (e2 z11))).setCell ⟨b8w, 3, none⟩ (.int .u64 (e3 z11))) b7w) := own_other O7w.out (by omega) _ _ _ _
            replace O8w : Hid (Own ((((x1w96.setCell ⟨b8w, 0, none⟩ (.int .u64 (e0 z11))).setCell ⟨b8w, 1, none⟩ (.int .u64 (e1 z11))).setCell ⟨b8w, 2, none⟩ (.int .u64 (e2 z11))).setCell ⟨b8w, 3, none⟩ (.int .u64 (e3 z11))) b8w) := own_set O8w.out _ _ _ _
            clear nc0 nc1 nc2 nc3 nf0 nf1 nf2 nf3
            generalize (((x1w96.setCell ⟨b8w, 0, none⟩ (.int .u64 (e0 z11))).setCell ⟨b8w, 1, none⟩ (.int .u64 (e1 z11))).setCell ⟨b8w, 2, none⟩ (.int .u64 (e2 z11))).setCell ⟨b8w, 3, none⟩ (.int .u64 (e3 z11)) = x1w97 at *
            refine wpAnyH_done (by kernel_rfl) ?_ _
            refine NoPanic.normal ?_
            go_wp2_with fail
            go_meet
            case rel => exact ⟨_, _, _, _, rfl, hz13, Hz13, V7w, hg7, O7w, rfl, hz11, Hz11, V8w, hg8, O8w, (by omega), hH⟩
        case c91w81 =>
          go_simp
          have hL7 : W0.heap.size ≤ x1w80.heap.size := hH.size
          have lt8_7 : b8w < x1w80.heap.size := O8w.out.lt
          refine hK.out _ _ (hH.trans (bel1 _ _)) (fun hH' => ?_)
          clear hK K hH
          have hH := hH'
          clear hH'
          try simp only [List.setIfInBounds_toArray, List.set]
          have O7w : Hid (Own (x1w80.alloc (.cells #[.int .u64 0, .int .u64 0, .int .u64 0, .int .u64 0] 28)) x1w80.heap.size) := own_new x1w80 _ _ _ _ _
          replace O8w : Hid (Own (x1w80.alloc (.cells #[.int .u64 0, .int .u64 0, .int .u64 0, .int .u64 0] 28)) b8w) := O8w.out.later (bel1 _ _)
          generalize x1w80.alloc (.cells #[.int .u64 0, .int .u64 0, .int .u64 0, .int .u64 0] 28) = x1w98 at *
          generalize x1w80.heap.size = b7w at *
          have hg7 : W0.heap.size ≤ b7w := hL7
          refine wpAnyH_ready (rs := [3]) (by kernel_rfl) (by simp) ?_
          refine AllReadyH.cons (o := ?o31w99) ?h31w99 (fun K hK => ?_) AllReadyH.nil
          case h31w99 => simp only [List.getElem?_toArray]; rfl
          go_simp
          refine (from_e b hb _).mono ?_
          rintro e y1w99 ⟨z13, rfl, hz13, Hz13, hb1w99⟩
          refine hK.out _ _ (hH.trans hb1w99) (fun hH' => ?_)
          clear hK K hH
          have hH := hH'
          clear hH'
          try simp only [List.setIfInBounds_toArray, List.set]
          replace O8w : Hid (Own y1w99 b8w) := O8w.out.later hb1w99
          replace O7w : Hid (Own y1w99 b7w) := O7w.out.later hb1w99
          clear hb1w99
          refine wpAnyH_ready (rs := [5]) (by kernel_rfl) (by simp) ?_
          refine AllReadyH.cons (o := ?o51w100) ?h51w100 (fun K hK => ?_) AllReadyH.nil
          case h51w100 => simp only [List.getElem?_toArray]; rfl
          go_simp
          refine (swap_odd z11 z13 n hz11 hz13 hn hp.out _).mono ?_
          rintro e y1w100 ⟨rfl, hb1w100⟩
          refine hK.out _ _ (hH.trans hb1w100) (fun hH' => ?_)
          clear hK K hH
          have hH := hH'
          clear hH'
          try simp only [List.setIfInBounds_toArray, List.set]
          replace O8w : Hid (Own y1w100 b8w) := O8w.out.later hb1w100
          replace O7w : Hid (Own y1w100 b7w) := O7w.out.later hb1w100
          clear hb1w100
          refine wpAnyH_take (i := 6) (oi := ?o61w101) (v := ?v61w101) ?h61w101 (by kernel_rfl) ?f61w101 ?r61w101 (fun _ _ _ h => h) (Or.inl ⟨?w61w101, ?y61w101⟩) (by assumption) ?t61w101
          case h61w101 => simp only [List.getElem?_toArray]; rfl
          case f61w101 => kernel_rfl
          case r61w101 => kernel_rfl
          case w61w101 => rfl
          case y61w101 => (intro u hu; (go_simp) <;> with_reducible rfl)
          try simp only [Act.put, List.setIfInBounds_toArray, List.set_cons_zero, List.set_cons_succ]
          refine wpAnyH_take (i := 7) (oi := ?o71w102) (v := ?v71w102) ?h71w102 (by kernel_rfl) ?f71w102 ?r71w102 (fun _ _ _ h => h) (Or.inl ⟨?w71w102, ?y71w102⟩) (by assumption) ?t71w102
          case h71w102 => simp only [List.getElem?_toArray]; rfl
          case f71w102 => kernel_rfl
          case r71w102 => kernel_rfl
          case w71w102 => rfl
          case y71w102 => (intro u hu; (go_simp) <;> with_reducible rfl)
          try simp only [Act.put, List.setIfInBounds_toArray, List.set_cons_zero, List.set_cons_succ]
          refine wpAnyH_take (i := 8) (oi := ?o81w103) (v := ?v81w103) ?h81w103 (by kernel_rfl) ?f81w103 ?r81w103 (fun _ _ _ h => h) (Or.inl ⟨?w81w103, ?y81w103⟩) (by assumption) ?t81w103
          case h81w103 => simp only [List.getElem?_toArray]; rfl
          case f81w103 => kernel_rfl
          case r81w103 => kernel_rfl
          case w81w103 => rfl
          case y81w103 => (intro u hu; (go_simp) <;> with_reducible rfl)
          try simp only [Act.put, List.setIfInBounds_toArray, List.set_cons_zero, List.set_cons_succ]
          obtain ⟨⟨_, nc0⟩, ⟨_, nc1⟩, ⟨_, nc2⟩, ⟨_, nc3⟩, nf0, nf1, nf2, nf3⟩ := O7w.out
          refine wpAnyH_ready (rs := [11]) (by kernel_rfl) (by simp) ?_
          refine AllReadyH.cons (o := ?o111w104) ?h111w104 (fun K hK => ?_) AllReadyH.nil
          case h111w104 => simp only [List.getElem?_toArray]; rfl
          go_simp
          refine hK.out _ _ (hH.set4 _ (by omega) _ _ _ _) (fun hH' => ?_)
          clear hK K hH
          have hH := hH'
          clear hH'
          try simp only [List.setIfInBounds_toArray, List.set]
          have V7w : Hid (Var ((((y1w100.setCell ⟨b7w, 0, none⟩ (.int .u64 (e0 z13))).setCell ⟨b7w, 1, none⟩ (.int .u64 (e1 z13))).setCell ⟨b7w, 2, none⟩ (.int .u64 (e2 z13))).setCell ⟨b7w, 3, none⟩ (.int .u64 (e3 z13))) b7w z13) := var_set y1w100 b7w z13 O7w.out
          replace O8w : Hid (Own ((((y1w100.setCell ⟨b7w, 0, none⟩ (.int .u64 (e0 z13))).setCell ⟨b7w, 1, none⟩ (.int .u64 (e1 z13))).setCell ⟨b7w, 2, none⟩ (.int .u64 (e2 z13))).setCell ⟨b7w, 3, none⟩ (.int .u64 (e3 z13))) b8w) := own_other O8w.out (by omega) _ _ _ _
          replace O7w : Hid (Own ((((y1w100.setCell ⟨b7w, 0, none⟩ (.int .u64 (e0 z13))).setCell ⟨b7w, 1, none⟩ (.int .u64 (e1 z13))).setCell ⟨b7w, 2, none⟩ (.int .u64 (e2 z13))).setCell ⟨b7w, 3, none⟩ (.int .u64 (e3 z13))) b7w) := own_set O7w.out _ _ _ _
          clear nc0 nc1 nc2 nc3 nf0 nf1 nf2 nf3
          generalize (((y1w100.setCell ⟨b7w, 0, none⟩ (.int .u64 (e0 z13))).setCell ⟨b7w, 1, none⟩ (.int .u64 (e1 z13))).setCell ⟨b7w, 2, none⟩ (.int .u64 (e2 z13))).setCell ⟨b7w, 3, none⟩ (.int .u64 (e3 z13)) = x1w104 at *
          obtain ⟨⟨_, nc0⟩, ⟨_, nc1⟩, ⟨_, nc2⟩, ⟨_, nc3⟩, nf0, nf1, nf2, nf3⟩ := O8w.out
          refine wpAnyH_ready (rs := [12]) (by kernel_rfl) (by simp) ?_
          refine AllReadyH.cons (o := ?o121w105) ?h121w105 (fun K hK => ?_) AllReadyH.nil
          case h121w105 => simp only [List.getElem?_toArray]; rfl
          go_simp
          refine hK.out _ _ (hH.set4 _ (by omega) _ _ _ _) (fun hH' => ?_)
          clear hK K hH
          have hH := hH'
          clear hH'
          try simp only [List.setIfInBounds_toArray, List.set]
          have V8w : Hid (Var ((((x1w104.setCell ⟨b8w, 0, none⟩ (.int .u64 (e0 z11))).setCell ⟨b8w, 1, none⟩ (.int .u64 (e1 z11))).setCell ⟨b8w, 2, none⟩ (.int .u64 (e2 z11))).setCell ⟨b8w, 3, none⟩ (.int .u64 (e3 z11))) b8w z11) := var_set x1w104 b8w z11 O8w.out
          replace V7w : Hid (Var ((((x1w104.setCell ⟨b8w, 0, none⟩ (.int .u64 (e0 z11))).setCell ⟨b8w, 1, none⟩ (.int .u64 (e1 z11))).setCell ⟨b8w, 2, none⟩ (.int .u64 (e2 z11))).setCell ⟨b8w, 3, none⟩ (.int .u64 (e3 z11))) b7w z13) := var_other V7w.out (by omega) _ _ _ _
          replace O7w : Hid (Own ((((x1w104.setCell ⟨b8w, 0, none⟩ (.int .u64 (e0 z11))).setCell ⟨b8w, 1, none⟩ (.int .u64 (e1 z11))).setCell ⟨b8w, 2, none⟩ (.int .u64 (e2 z11))).setCell ⟨b8w, 3, none⟩ (.int .u64 (e3 z11))) b7w) := own_other O7w.out (by omega) _ _ _ _
          replace O8w : Hid (Own ((((x1w104.setCell ⟨b8w, 0, none⟩ (.int .u64 (e0 z11))).setCell ⟨b8w, 1, none⟩ (.int .u64 (e1 z11))).setCell ⟨b8w, 2, none⟩ (.int .u64 (e2 z11))).setCell ⟨b8w, 3, none⟩ (.int .u64 (e3 z11))) b8w) := own_set O8w.out _ _ _ _
          clear nc0 nc1 nc2 nc3 nf0 nf1 nf2 nf3
          generalize (((x1w104.setCell ⟨b8w, 0, none⟩ (.int .u64 (e0 z11))).setCell ⟨b8w, 1, none⟩ (.int .u64 (e1 z11))).setCell ⟨b8w, 2, none⟩ (.int .u64 (e2 z11))).setCell ⟨b8w, 3, none⟩ (.int .u64 (e3 z11)) = x1w105 at *
          refine wpAnyH_done (by kernel_rfl) ?_ _
          refine NoPanic.normal ?_
          go_wp2_with fail
          go_meet
          case rel => exact ⟨_, _, _, _, rfl, hz13, Hz13, V7w, hg7, O7w, rfl, hz11, Hz11, V8w, hg8, O8w, (by omega), hH⟩
    case c91w4 =>
      go_simp
      have hL7 : W0.heap.size ≤ y0.heap.size := hH.size
      refine hK.out _ _ (hH.trans (bel1 _ _)) (fun hH' => ?_)
      clear hK K hH
      have hH := hH'
      clear hH'
      try simp only [List.setIfInBounds_toArray, List.set]
      have O7w : Hid (Own (y0.alloc (.cells #[.int .u64 0, .int .u64 0, .int .u64 0, .int .u64 0] 28)) y0.heap.size) := own_new y0 _ _ _ _ _
      generalize y0.alloc (.cells #[.int .u64 0, .int .u64 0, .int .u64 0, .int .u64 0] 28) = x1w106 at *
      generalize y0.heap.size = b7w at *
      have hg7 : W0.heap.size ≤ b7w := hL7
      refine wpAnyH_ready (rs := [1, 10]) (by kernel_rfl) (by simp) ?_
      refine AllReadyH.cons (o := ?o11w107) ?h11w107 (fun K hK => ?c11w107) (AllReadyH.cons (o := ?o101w107) ?h101w107 (fun K hK => ?c101w107) AllReadyH.nil)
      case h11w107 => simp only [List.getElem?_toArray]; rfl
      case h101w107 => simp only [List.getElem?_toArray]; rfl
      case c11w107 =>
        go_simp
        refine (from_e a ha _).mono ?_
        rintro e y1w108 ⟨z11, rfl, hz11, Hz11, hb1w108⟩
        refine hK.out _ _ (hH.trans hb1w108) (fun hH' => ?_)
        clear hK K hH
        have hH := hH'
        clear hH'
        try simp only [List.setIfInBounds_toArray, List.set]
        replace O7w : Hid (Own y1w108 b7w) := O7w.out.later hb1w108
        clear hb1w108
        refine wpAnyH_ready (rs := [3, 10]) (by kernel_rfl) (by simp) ?_
        refine AllReadyH.cons (o := ?o31w109) ?h31w109 (fun K hK => ?c31w109) (AllReadyH.cons (o := ?o101w109) ?h101w109 (fun K hK => ?c101w109) AllReadyH.nil)
        case h31w109 => simp only [List.getElem?_toArray]; rfl
        case h101w109 => simp only [List.getElem?_toArray]; rfl
        case c31w109 =>
          go_simp
          refine (from_e b hb _).mono ?_
          rintro e y1w110 ⟨z13, rfl, hz13, Hz13, hb1w110⟩
          refine hK.out _ _ (hH.trans hb1w110) (fun hH' => ?_)
          clear hK K hH
          have hH := hH'
          clear hH'
          try simp only [List.setIfInBounds_toArray, List.set]
          replace O7w : Hid (Own y1w110 b7w) := O7w.out.later hb1w110
          clear hb1w110
          refine wpAnyH_ready (rs := [5, 10]) (by kernel_rfl) (by simp) ?_
          refine AllReadyH.cons (o := ?o51w111) ?h51w111 (fun K hK => ?c51w111) (AllReadyH.cons (o := ?o101w111) ?h101w111 (fun K hK => ?c101w111) AllReadyH.nil)
          case h51w111 => simp only [List.getElem?_toArray]; rfl
          case h101w111 => simp only [List.getElem?_toArray]; rfl
          case c51w111 =>
            go_simp
            refine (swap_odd z11 z13 n hz11 hz13 hn hp.out _).mono ?_
            rintro e y1w112 ⟨rfl, hb1w112⟩
            refine hK.out _ _ (hH.trans hb1w112) (fun hH' => ?_)
            clear hK K hH
            have hH := hH'
            clear hH'
            try simp only [List.setIfInBounds_toArray, List.set]
            replace O7w : Hid (Own y1w112 b7w) := O7w.out.later hb1w112
            clear hb1w112
            refine wpAnyH_take (i := 6) (oi := ?o61w113) (v := ?v61w113) ?h61w113 (by kernel_rfl) ?f61w113 ?r61w113 (fun _ _ _ h => h) (Or.inl ⟨?w61w113, ?y61w113⟩) (by assumption) ?t61w113
            case h61w113 => simp only [List.getElem?_toArray]; rfl
            case f61w113 => kernel_rfl
            case r61w113 => kernel_rfl
            case w61w113 => rfl
            case y61w113 => (intro u hu; (go_simp) <;> with_reducible rfl)
            try simp only [Act.put, List.setIfInBounds_toArray, List.set_cons_zero, List.set_cons_succ]
            refine wpAnyH_take (i := 7) (oi := ?o71w114) (v := ?v71w114) ?h71w114 (by kernel_rfl) ?f71w114 ?r71w114 (fun _ _ _ h => h) (Or.inl ⟨?w71w114, ?y71w114⟩) (by assumption) ?t71w114
            case h71w114 => simp only [List.getElem?_toArray]; rfl
            case f71w114 => kernel_rfl
            case r71w114 => kernel_rfl
            case w71w114 => rfl
            case y71w114 => (intro u hu; (go_simp) <;> with_reducible rfl)
            try simp only [Act.put, List.setIfInBounds_toArray, List.set_cons_zero, List.set_cons_succ]
            refine wpAnyH_take (i := 8) (oi := ?o81w115) (v := ?v81w115) ?h81w115 (by kernel_rfl) ?f81w115 ?r81w115 (fun _ _ _ h => h) (Or.inl ⟨?w81w115, ?y81w115⟩) (by assumption) ?t81w115
            case h81w115 => simp only [List.getElem?_toArray]; rfl
            case f81w115 => kernel_rfl
            case r81w115 => kernel_rfl
            case w81w115 => rfl
            case y81w115 => (intro u hu; (go_simp) <;> with_reducible rfl)
            try simp only [Act.put, List.setIfInBounds_toArray, List.set_cons_zero, List.set_cons_succ]
            refine wpAnyH_ready (rs := [10]) (by kernel_rfl) (by simp) ?_
            refine AllReadyH.cons (o := ?o101w116) ?h101w116 (fun K hK => ?_) AllReadyH.nil
            case h101w116 => simp only [List.getElem?_toArray]; rfl
            go_simp
            have hL8 : W0.heap.size ≤ y1w112.heap.size := hH.size
            have lt7_8 : b7w < y1w112.heap.size := O7w.out.lt
            refine hK.out _ _ (hH.trans (bel1 _ _)) (fun hH' => ?_)
            clear hK K hH
            have hH := hH'
            clear hH'
            try simp only [List.setIfInBounds_toArray, List.set]
            have O8w : Hid (Own (y1w112.alloc (.cells #[.int .u64 0, .int .u64 0, .int .u64 0, .int .u64 0] 28)) y1w112.heap.size) := own_new y1w112 _ _ _ _ _
            replace O7w : Hid (Own (y1w112.alloc (.cells #[.int .u64 0, .int .u64 0, .int .u64 0, .int .u64 0] 28)) b7w) := O7w.out.later (bel1 _ _)
            generalize y1w112.alloc (.cells #[.int .u64 0, .int .u64 0, .int .u64 0, .int .u64 0] 28) = x1w116 at *
            generalize y1w112.heap.size = b8w at *
            have hg8 : W0.heap.size ≤ b8w := hL8
            obtain ⟨⟨_, nc0⟩, ⟨_, nc1⟩, ⟨_, nc2⟩, ⟨_, nc3⟩, nf0, nf1, nf2, nf3⟩ := O7w.out
            refine wpAnyH_ready (rs := [11]) (by kernel_rfl) (by simp) ?_
            refine AllReadyH.cons (o := ?o111w117) ?h111w117 (fun K hK => ?_) AllReadyH.nil
            case h111w117 => simp only [List.getElem?_toArray]; rfl
            go_simp
            refine hK.out _ _ (hH.set4 _ (by omega) _ _ _ _) (fun hH' => ?_)
            clear hK K hH
            have hH := hH'
            clear hH'
            try simp only [List.setIfInBounds_toArray, List.set]
            have V7w : Hid (Var ((((x1w116.setCell ⟨b7w, 0, none⟩ (.int .u64 (e0 z13))).setCell ⟨b7w, 1, none⟩ (.int .u64 (e1 z13))).setCell ⟨b7w, 2, none⟩ (.int .u64 (e2 z13))).setCell ⟨b7w, 3, none⟩ (.int .u64 (e3 z13))) b7w z13) := var_set x1w116 b7w z13 O7w.out
            replace O8w : Hid (Own ((((x1w116.setCell ⟨b7w, 0, none⟩ (.int .u64 (e0 z13))).setCell ⟨b7w, 1, none⟩ (.int .u64 (e1 z13))).setCell ⟨b7w, 2, none⟩ (.int .u64 (e2 z13))).setCell ⟨b7w, 3, none⟩ (.int .u64 (e3 z13))) b8w) := own_other O8w.out (by omega) _ _ _ _
            replace O7w : Hid (Own ((((x1w116.setCell ⟨b7w, 0, none⟩ (.int .u64 (e0 z13))).setCell ⟨b7w, 1, none⟩ (.int .u64 (e1 z13))).setCell ⟨b7w, 2, none⟩ (.int .u64 (e2 z13))).setCell ⟨b7w, 3, none⟩ (.int .u64 (e3 z13))) b7w) := own_set O7w.out _ _ _ _
            clear nc0 nc1 nc2 nc3 nf0 nf1 nf2 nf3
            generalize (((x1w116.setCell ⟨b7w, 0, none⟩ (.int .u64 (e0 z13))).setCell ⟨b7w, 1, none⟩ (.int .u64 (e1 z13))).setCell ⟨b7w, 2, none⟩ (.int .u64 (e2 z13))).setCell ⟨b7w, 3, none⟩ (.int .u64 (e3 z13)) = x1w117 at *
            obtain ⟨⟨_, nc0⟩, ⟨_, nc1⟩, ⟨_, nc2⟩, ⟨_, nc3⟩, nf0, nf1, nf2, nf3⟩ := O8w.out
            refine wpAnyH_ready (rs := [12]) (by kernel_rfl) (by simp) ?_
            refine AllReadyH.cons (o := ?o121w118) ?h121w118 (fun K hK => ?_) AllReadyH.nil
            case h121w118 => simp only [List.getElem?_toArray]; rfl
            go_simp
            refine hK.out _ _ (hH.set4 _ (by omega) _ _ _ _) (fun hH' => ?_)
            clear hK K hH
            have hH := hH'
            clear hH'
            try simp only [List.setIfInBounds_toArray, List.set]
            have V8w : Hid (Var ((((x1w117.setCell ⟨b8w, 0, none⟩ (.int .u64 (e0 z11))).setCell ⟨b8w, 1, none⟩ (.int .u64 (e1 z11))).setCell ⟨b8w, 2, none⟩ (.int .u64 (e2 z11))).setCell ⟨b8w, 3, none⟩ (.int .u64 (e3 z11))) b8w z11) := var_set x1w117 b8w z11 O8w.out
            replace V7w : Hid (Var ((((x1w117.setCell ⟨b8w, 0, none⟩ (.int .u64 (e0 z11))).setCell ⟨b8w, 1, none⟩ (.int .u64 (e1 z11))).setCell ⟨b8w, 2, none⟩ (.int .u64 (e2 z11))).setCell ⟨b8w, 3, none⟩ (.int .u64 (e3 z11))) b7w z13) := var_other V7w.out (by omega) _ _ _ _
            replace O7w : Hid (Own ((((x1w117.setCell ⟨b8w, 0, none⟩ (.int .u64 (e0 z11))).setCell ⟨b8w, 1, none⟩ (.int .u64 (e1 z11))).setCell ⟨b8w, 2, none⟩ (.int .u64 (e2 z11))).setCell ⟨b8w, 3, none⟩ (.int .u64 (e3 z11))) b7w) := own_other O7w.out (by omega) _ _ _ _
            replace O8w : Hid (Own ((((x1w117.setCell ⟨b8w, 0, none⟩ (.int .u64 (e0 z11))).setCell ⟨b8w, 1, none⟩ (.int .u64 (e1 z11))).setCell ⟨b8w, 2, none⟩ (.int .u64 (e2 z11))).setCell ⟨b8w, 3, none⟩ (.int .u64 (e3 z11))) b8w) := own_set O8w.out _ _ _ _
            clear nc0 nc1 nc2 nc3 nf0 nf1 nf2 nf3
            generalize (((x1w117.setCell ⟨b8w, 0, none⟩ (.int .u64 (e0 z11))).setCell ⟨b8w, 1, none⟩ (.int .u64 (e1 z11))).setCell ⟨b8w, 2, none⟩ (.int .u64 (e2 z11))).setCell ⟨b8w, 3, none⟩ (.int .u64 (e3 z11)) = x1w118 at *
            refine wpAnyH_done (by kernel_rfl) ?_ _
            refine NoPanic.normal ?_
            go_wp2_with fail
            go_meet
            case rel => exact ⟨_, _, _, _, rfl, hz13, Hz13, V7w, hg7, O7w, rfl, hz11, Hz11, V8w, hg8, O8w, (by omega), hH⟩
          case c101w111 =>
            go_simp
            have hL8 : W0.heap.size ≤ y1w110.heap.size := hH.size
            have lt7_8 : b7w < y1w110.heap.size := O7w.out.lt
            refine hK.out _ _ (hH.trans (bel1 _ _)) (fun hH' => ?_)
            clear hK K hH
            have hH := hH'
            clear hH'
            try simp only [List.setIfInBounds_toArray, List.set]
            have O8w : Hid (Own (y1w110.alloc (.cells #[.int .u64 0, .int .u64 0, .int .u64 0, .int .u64 0] 28)) y1w110.heap.size) := own_new y1w110 _ _ _ _ _
            replace O7w : Hid (Own (y1w110.alloc (.cells #[.int .u64 0, .int .u64 0, .int .u64 0, .int .u64 0] 28)) b7w) := O7w.out.later (bel1 _ _)
            generalize y1w110.alloc (.cells #[.int .u64 0, .int .u64 0, .int .u64 0, .int .u64 0] 28) = x1w119 at *
            generalize y1w110.heap.size = b8w at *
            have hg8 : W0.heap.size ≤ b8w := hL8
            refine wpAnyH_ready (rs := [5]) (by kernel_rfl) (by simp) ?_
            refine AllReadyH.cons (o := ?o51w120) ?h51w120 (fun K hK => ?_) AllReadyH.nil
            case h51w120 => simp only [List.getElem?_toArray]; rfl
            go_simp
            refine (swap_odd z11 z13 n hz11 hz13 hn hp.out _).mono ?_
            rintro e y1w120 ⟨rfl, hb1w120⟩
            refine hK.out _ _ (hH.trans hb1w120) (fun hH' => ?_)
            clear hK K hH
            have hH := hH'
            clear hH'
            try simp only [List.setIfInBounds_toArray, List.set]
            replace O7w : Hid (Own y1w120 b7w) := O7w.out.later hb1w120
            replace O8w : Hid (Own y1w120 b8w) := O8w.out.later hb1w120
            clear hb1w120
            refine wpAnyH_take (i := 6) (oi := ?o61w121) (v := ?v61w121) ?h61w121 (by kernel_rfl) ?f61w121 ?r61w121 (fun _ _ _ h => h) (Or.inl ⟨?w61w121, ?y61w121⟩) (by assumption) ?t61w121
            case h61w121 => simp only [List.getElem?_toArray]; rfl
            case f61w121 => kernel_rfl
            case r61w121 => kernel_rfl
            case w61w121 => rfl
            case y61w121 => (intro u hu; (go_simp) <;> with_reducible rfl)
            try simp only [Act.put, List.setIfInBounds_toArray, List.set_cons_zero, List.set_cons_succ]
            refine wpAnyH_take (i := 7) (oi := ?o71w122) (v := ?v71w122) ?h71w122 (by kernel_rfl) ?f71w122 ?r71w122 (fun _ _ _ h => h) (Or.inl ⟨?w71w122, ?y71w122⟩) (by assumption) ?t71w122
            case h71w122 => simp only [List.getElem?_toArray]; rfl
            case f71w122 => kernel_rfl
            case r71w122 => kernel_rfl
            case w71w122 => rfl
            case y71w122 => (intro u hu; (go_simp) <;> with_reducible rfl)
            try simp only [Act.put, List.setIfInBounds_toArray, List.set_cons_zero, List.set_cons_succ]
            refine wpAnyH_take (i := 8) (oi := ?o81w123) (v := ?v81w123) ?h81w123 (by kernel_rfl) ?f81w123 ?r81w123 (fun _ _ _ h => h) (Or.inl ⟨?w81w123, ?y81w123⟩) (by assumption) ?t81w123
            case h81w123 => simp only [List.getElem?_toArray]; rfl
            case f81w123 => kernel_rfl
            case r81w123 => kernel_rfl
            case w81w123 => rfl
            case y81w123 => (intro u hu; (go_simp) <;> with_reducible rfl)
            try simp only [Act.put, List.setIfInBounds_toArray, List.set_cons_zero, List.set_cons_succ]
            obtain ⟨⟨_, nc0⟩, ⟨_, nc1⟩, ⟨_, nc2⟩, ⟨_, nc3⟩, nf0, nf1, nf2, nf3⟩ := O7w.out
            refine wpAnyH_ready (rs := [11]) (by kernel_rfl) (by simp) ?_
            refine AllReadyH.cons (o := ?o111w124) ?h111w124 (fun K hK => ?_) AllReadyH.nil
            case h111w124 => simp only [List.getElem?_toArray]; rfl
            go_simp
            refine hK.out _ _ (hH.set4 _ (by omega) _ _ _ _) (fun hH' => ?_)
            clear hK K hH
            have hH := hH'
            clear hH'
            try simp only [List.setIfInBounds_toArray, List.set]
            have V7w : Hid (Var ((((y1w120.setCell ⟨b7w, 0, none⟩ (.int .u64 (e0 z13))).setCell ⟨b7w, 1, none⟩ (.int .u64 (e1 z13))).setCell ⟨b7w, 2, none⟩ (.int .u64 (e2 z13))).setCell ⟨b7w, 3, none⟩ (.int .u64 (e3 z13))) b7w z13) := var_set y1w120 b7w z13 O7w.out
            replace O8w : Hid (Own ((((y1w120.setCell ⟨b7w, 0, none⟩ (.int .u64 (e0 z13))).setCell ⟨b7w, 1, none⟩ (.int .u64 (e1 z13))).setCell ⟨b7w, 2, none⟩ (.int .u64 (e2 z13))).setCell ⟨b7w, 3, none⟩ (.int .u64 (e3 z13))) b8w) := own_other O8w.out (by omega) _ _ _ _
            replace O7w : Hid (Own ((((y1w120.setCell ⟨b7w, 0, none⟩ (.int .u64 (e0 z13))).setCell ⟨b7w, 1, none⟩ (.int .u64 (e1 z13))).setCell ⟨b7w, 2, none⟩ (.int .u64 (e2 z13))).setCell ⟨b7w, 3, none⟩ (.int .u64 (e3 z13))) b7w) := own_set O7w.out _ _ _ _
            clear nc0 nc1 nc2 nc3 nf0 nf1 nf2 nf3
            generalize (((y1w120.setCell ⟨b7w, 0, none⟩ (.int .u64 (e0 z13))).setCell ⟨b7w, 1, none⟩ (.int .u64 (e1 z13))).setCell ⟨b7w, 2, none⟩ (.int .u64 (e2 z13))).setCell ⟨b7w, 3, none⟩ (.int .u64 (e3 z13)) = x1w124 at *
            obtain ⟨⟨_, nc0⟩, ⟨_, nc1⟩, ⟨_, nc2⟩, ⟨_, nc3⟩, nf0, nf1, nf2, nf3⟩ := O8w.out
            refine wpAnyH_ready (rs := [12]) (by kernel_rfl) (by simp) ?_
            refine AllReadyH.cons (o := ?o121w125) ?h121w125 (fun K hK => ?_) AllReadyH.nil
            case h121w125 => simp only [List.getElem?_toArray]; rfl
            go_simp
            refine hK.out _ _ (hH.set4 _ (by omega) _ _ _ _) (fun hH' => ?_)
            clear hK K hH
            have hH := hH'
            clear hH'
            try simp only [List.setIfInBounds_toArray, List.set]
            have V8w : Hid (Var ((((x1w124.setCell ⟨b8w, 0, none⟩ (.int .u64 (e0 z11))).setCell ⟨b8w, 1, none⟩ (.int .u64 (e1 z11))).setCell ⟨b8w, 2, none⟩ (.int .u64 (e2 z11))).setCell ⟨b8w, 3, none⟩ (.int .u64 (e3 z11))) b8w z11) := var_set x1w124 b8w z11 O8w.out
            replace V7w : Hid (Var ((((x1w124.setCell ⟨b8w, 0, none⟩ (.int .u64 (e0 z11))).setCell ⟨b8w, 1, none⟩ (.int .u64 (e1 z11))).setCell ⟨b8w, 2, none⟩ (.int .u64 (e2 z11))).setCell ⟨b8w, 3, none⟩ (.int .u64 (e3 z11))) b7w z13) := var_other V7w.out (by omega) _ _ _ _
            replace O7w : Hid (Own ((((x1w124.setCell ⟨b8w, 0, none⟩ (.int .u64 (e0 z11))).setCell ⟨b8w, 1, none⟩ (.int .u64 (e1 z11))).setCell ⟨b8w, 2, none⟩ (.int .u64 (e2 z11))).setCell ⟨b8w, 3, none⟩ (.int .u64 (e3 z11))) b7w) := own_other O7w.out (by omega) _ _ _ _
            replace O8w : Hid (Own ((((x1w124.setCell ⟨b8w, 0, none⟩ (.int .u64 (e0 z11))).setCell ⟨b8w, 1, none⟩ (.int .u64 (e1 z11))).setCell ⟨b8w, 2, none⟩ (.int .u64 (e2 z11))).setCell ⟨b8w, 3, none⟩ (.int .u64 (e3 z11))) b8w) := own_set O8w.out _ _ _ _
            clear nc0 nc1 nc2 nc3 nf0 nf1 nf2 nf3
            generalize (((x1w124.setCell ⟨b8w, 0, none⟩ (.int .u64 (e0 z11))).setCell ⟨b8w, 1, none⟩ (.int .u64 (e1 z11))).setCell ⟨b8w, 2, none⟩ (.int .u64 (e2 z11))).setCell ⟨b8w, 3, none⟩ (.int .u64 (e3 z11)) = x1w125 at *
            refine wpAnyH_done (by kernel_rfl) ?_ _
            refine NoPanic.normal ?_
            go_wp2_with fail
            go_meet
            case rel => exact ⟨_, _, _, _, rfl, hz13, Hz13, V7w, hg7, O7w, rfl, hz11, Hz11, V8w, hg8, O8w, (by omega), hH⟩
        case c101w109 =>
          go_simp
          have hL8 : W0.heap.size ≤ y1w108.heap.size := hH.size
          have lt7_8 : b7w < y1w108.heap.size := O7w.out.lt
          refine hK.out _ _ (hH.trans (bel1 _ _)) (fun hH' => ?_)
          clear hK K hH
          have hH := hH'
          clear hH'
          try simp only [List.setIfInBounds_toArray, List.set]
          have O8w : Hid (Own (y1w108.alloc (.cells #[.int .u64 0, .int .u64 0, .int .u64 0, .int .u64 0] 28)) y1w108.heap.size) := own_new y1w108 _ _ _ _ _
          replace O7w : Hid (Own (y1w108.alloc (.cells #[.int .u64 0, .int .u64 0, .int .u64 0, .int .u64 0] 28)) b7w) := O7w.out.later (bel1 _ _)
          generalize y1w108.alloc (.cells #[.int .u64 0, .int .u64 0, .int .u64 0, .int .u64 0] 28) = x1w126 at *
          generalize y1w108.heap.size = b8w at *
          have hg8 : W0.heap.size ≤ b8w := hL8
          refine wpAnyH_ready (rs := [3]) (by kernel_rfl) (by simp) ?_
          refine AllReadyH.cons (o := ?o31w127) ?h31w127 (fun K hK => ?_) AllReadyH.nil
          case h31w127 => simp only [List.getElem?_toArray]; rfl
          go_simp
          refine (from_e b hb _).mono ?_
          rintro e y1w127 ⟨z13, rfl, hz13, Hz13, hb1w127⟩
          refine hK.out _ _ (hH.trans hb1w127) (fun hH' => ?_)
          clear hK K hH
          have hH := hH'
          clear hH'
          try simp only [List.setIfInBounds_toArray, List.set]
          replace O7w : Hid (Own y1w127 b7w) := O7w.out.later hb1w127
          replace O8w : Hid (Own y1w127 b8w) := O8w.out.later hb1w127
          clear hb1w127
          refine wpAnyH_ready (rs := [5]) (by kernel_rfl) (by simp) ?_
          refine AllReadyH.cons (o := ?o51w128) ?h51w128 (fun K hK => ?_) AllReadyH.nil
          case h51w128 => simp only [List.getElem?_toArray]; rfl
          go_simp
          refine (swap_odd z11 z13 n hz11 hz13 hn hp.out _).mono ?_
          rintro e y1w128 ⟨rfl, hb1w128⟩
          refine hK.out _ _ (hH.trans hb1w128) (fun hH' => ?_)
          clear hK K hH
          have hH := hH'
          clear hH'
          try simp only [List.setIfInBounds_toArray, List.set]
          replace O7w : Hid (Own y1w128 b7w) := O7w.out.later hb1w128
          replace O8w : Hid (Own y1w128 b8w) := O8w.out.later hb1w128
          clear hb1w128
          refine wpAnyH_take (i := 6) (oi := ?o61w129) (v := ?v61w129) ?h61w129 (by kernel_rfl) ?f61w129 ?r61w129 (fun _ _ _ h => h) (Or.inl ⟨?w61w129, ?y61w129⟩) (by assumption) ?t61w129
          case h61w129 => simp only [List.getElem?_toArray]; rfl
          case f61w129 => kernel_rfl
          case r61w129 => kernel_rfl
          case w61w129 => rfl
          case y61w129 => (intro u hu; (go_simp) <;> with_reducible rfl)
          try simp only [Act.put, List.setIfInBounds_toArray, List.set_cons_zero, List.set_cons_succ]
          refine wpAnyH_take (i := 7) (oi := ?o71w130) (v := ?v71w130) ?h71w130 (by kernel_rfl) ?f71w130 ?r71w130 (fun _ _ _ h => h) (Or.inl ⟨?w71w130, ?y71w130⟩) (by assumption) ?t71w130
          case h71w130 => simp only [List.getElem?_toArray]; rfl
          case f71w130 => kernel_rfl
          case r71w130 => kernel_rfl
          case w71w130 => rfl
          case y71w130 => (intro u hu; (go_simp) <;> with_reducible rfl)
          try simp only [Act.put, List.setIfInBounds_toArray, List.set_cons_zero, List.set_cons_succ]
          refine wpAnyH_take (i := 8) (oi := ?o81w131) (v := ?v81w131) ?h81w131 (by kernel_rfl) ?f81w131 ?r81w131 (fun _ _ _ h => h) (Or.inl ⟨?w81w131, ?y81w131⟩) (by assumption) ?t81w131
          case h81w131 => simp only [List.getElem?_toArray]; rfl
          case f81w131 => kernel_rfl
          case r81w131 => kernel_rfl
          case w81w131 => rfl
          case y81w131 => (intro u hu; (go_simp) <;> with_reducible rfl)
          try simp only [Act.put, List.setIfInBounds_toArray, List.set_cons_zero, List.set_cons_succ]
          obtain ⟨⟨_, nc0⟩, ⟨_, nc1⟩, ⟨_, nc2⟩, ⟨_, nc3⟩, nf0, nf1, nf2, nf3⟩ := O7w.out
          refine wpAnyH_ready (rs := [11]) (by kernel_rfl) (by simp) ?_
          refine AllReadyH.cons (o := ?o111w132) ?h111w132 (fun K hK => ?_) AllReadyH.nil
          case h111w132 => simp only [List.getElem?_toArray]; rfl
          go_simp
          refine hK.out _ _ (hH.set4 _ (by omega) _ _ _ _) (fun hH' => ?_)
          clear hK K hH
          have hH := hH'
          clear hH'
          try simp only [List.setIfInBounds_toArray, List.set]
          have V7w : Hid (Var ((((y1w128.setCell ⟨b7w, 0, none⟩ (.int .u64 (e0 z13))).setCell ⟨b7w, 1, none⟩ (.int .u64 (e1 z13))).setCell ⟨b7w, 2, none⟩ (.int .u64 (e2 z13))).setCell ⟨b7w, 3, none⟩ (.int .u64 (e3 z13))) b7w z13) := var_set y1w128 b7w z13 O7w.out
          replace O8w : Hid (Own ((((y1w128.setCell ⟨b7w, 0, none⟩ (.int .u64 (e0 z13))).setCell ⟨b7w, 1, none⟩ (.int .u64 (e1 z13))).setCell ⟨b7w, 2, none⟩ (.int .u64 (e2 z13))).setCell ⟨b7w, 3, none⟩ (.int .u64 (e3 z13))) b8w) := own_other O8w.out (by omega) _ _ _ _
          replace O7w : Hid (Own ((((y1w128.setCell ⟨b7w, 0, none⟩ (.int .u64 (e0 z13))).setCell ⟨b7w, 1, none⟩ (.int .u64 (e1 z13))).setCell ⟨b7w, 2, none⟩ (.int .u64 (e2 z13))).setCell ⟨b7w, 3, none⟩ (.int .u64 (e3 z13))) b7w) := own_set O7w.out _ _ _ _
          clear nc0 nc1 nc2 nc3 nf0 nf1 nf2 nf3
          generalize (((y1w128.setCell ⟨b7w, 0, none⟩ (.int .u64 (e0 z13))).setCell ⟨b7w, 1, none⟩ (.int .u64 (e1 z13))).setCell ⟨b7w, 2, none⟩ (.int .u64 (e2 z13))).setCell ⟨b7w, 3, none⟩ (.int .u64 (e3 z13)) = x1w132 at *
          obtain ⟨⟨_, nc0⟩, ⟨_, nc1⟩, ⟨_, nc2⟩, ⟨_, nc3⟩, nf0, nf1, nf2, nf3⟩ := O8w.out
          refine wpAnyH_ready (rs := [12]) (by kernel_rfl) (by simp) ?_
          refine AllReadyH.cons (o := ?o121w133) ?h121w133 (fun K hK => ?_) AllReadyH.nil
          case h121w133 => simp only [List.getElem?_toArray]; rfl
          go_simp
          refine hK.out _ _ (hH.set4 _ (by omega) _ _ _ _) (fun hH' => ?_)
          clear hK K hH
          have hH := hH'
          clear hH'
          try simp only [List.setIfInBounds_toArray, List.set]
          have V8w : Hid (Var ((((x1w132.setCell ⟨b8w, 0, none⟩ (.int .u64 (e0 z11))).setCell ⟨b8w, 1, none⟩ (.int .u64 (e1 z11))).setCell ⟨b8w, 2, none⟩ (.int .u64 (e2 z11))).setCell ⟨b8w, 3, none⟩ (.int .u64 (e3 z11))) b8w z11) := var_set x1w132 b8w z11 O8w.out
          replace V7w : Hid (Var ((((x1w132.setCell ⟨b8w, 0, none⟩ (.int .u64 (e0 z11))).setCell ⟨b8w, 1, none⟩ (.int .u64 (e1 z11))).setCell ⟨b8w, 2, none⟩ (.int .u64 (e2 z11))).setCell ⟨b8w, 3, none⟩ (.int .u64 (e3 z11))) b7w z13) := var_other V7w.out (by omega) _ _ _ _
          replace O7w : Hid (Own ((((x1w132.setCell ⟨b8w, 0, none⟩ (.int .u64 (e0 z11))).setCell ⟨b8w, 1, none⟩ (.int .u64 (e1 z11))).setCell ⟨b8w, 2, none⟩ (.int .u64 (e2 z11))).setCell ⟨b8w, 3, none⟩ (.int .u64 (e3 z11))) b7w) := own_other O7w.out (by omega) _ _ _ _
          replace O8w : Hid (Own ((((x1w132.setCell ⟨b8w, 0, none⟩ (.int .u64 (e0 z11))).setCell ⟨b8w, 1, none⟩ (.int .u64 (e1 z11))).setCell ⟨b8w, 2, none⟩ (.int .u64 (e2 z11))).setCell ⟨b8w, 3, none⟩ (.int .u64 (e3 z11))) b8w) := own_set O8w.out _ _ _ _
          clear nc0 nc1 nc2 nc3 nf0 nf1 nf2 nf3
          generalize (((x1w132.setCell ⟨b8w, 0, none⟩ (.int .u64 (e0 z11))).setCell ⟨b8w, 1, none⟩ (.int .u64 (e1 z11))).setCell ⟨b8w, 2, none⟩ (.int .u64 (e2 z11))).setCell ⟨b8w, 3, none⟩ (.int .u64 (e3 z11)) = x1w133 at *
          refine wpAnyH_done (by kernel_rfl) ?_ _
          refine NoPanic.normal ?_
          go_wp2_with fail
          go_meet
          case rel => exact ⟨_, _, _, _, rfl, hz13, Hz13, V7w, hg7, O7w, rfl, hz11, Hz11, V8w, hg8, O8w, (by omega), hH⟩
      case c101w107 =>
        go_simp
        have hL8 : W0.heap.size ≤ x1w106.heap.size := hH.size
        have lt7_8 : b7w < x1w106.heap.size := O7w.out.lt
        refine hK.out _ _ (hH.trans (bel1 _ _)) (fun hH' => ?_)
        clear hK K hH
        have hH := hH'
        clear hH'
        try simp only [List.setIfInBounds_toArray, List.set]
        have O8w : Hid (Own (x1w106.alloc (.cells #[.int .u64 0, .int .u64 0, .int .u64 0, .int .u64 0] 28)) x1w106.heap.size) := own_new x1w106 _ _ _ _ _
        replace O7w : Hid (Own (x1w106.alloc (.cells #[.int .u64 0, .int .u64 0, .int .u64 0, .int .u64 0] 28)) b7w) := O7w.out.later (bel1 _ _)
        generalize x1w106.alloc (.cells #[.int .u64 0, .int .u64 0, .int .u64 0, .int .u64 0] 28) = x1w134 at *
        generalize x1w106.heap.size = b8w at *
        have hg8 : W0.heap.size ≤ b8w := hL8
        refine wpAnyH_ready (rs := [1]) (by kernel_rfl) (by simp) ?_
        refine AllReadyH.cons (o := ?o11w135) ?h11w135 (fun K hK => ?_) AllReadyH.nil
        case h11w135 => simp only [List.getElem?_toArray]; rfl
        go_simp
        refine (from_e a ha _).mono ?_
        rintro e y1w135 ⟨z11, rfl, hz11, Hz11, hb1w135⟩
        refine hK.out _ _ (hH.trans hb1w135) (fun hH' => ?_)
        clear hK K hH
        have hH := hH'
        clear hH'
        try simp only [List.setIfInBounds_toArray, List.set]
        replace O7w : Hid (Own y1w135 b7w) := O7w.out.later hb1w135
        replace O8w : Hid (Own y1w135 b8w) := O8w.out.later hb1w135
        clear hb1w135
        refine wpAnyH_ready (rs := [3]) (by kernel_rfl) (by simp) ?_
        refine AllReadyH.cons (o := ?o31w136) ?h31w136 (fun K hK => ?_) AllReadyH.nil
        case h31w136 => simp only [List.getElem?_toArray]; rfl
        go_simp
        refine (from_e b hb _).mono ?_
        rintro e y1w136 ⟨z13, rfl, hz13, Hz13, hb1w136⟩
        refine hK.out _ _ (hH.trans hb1w136) (fun hH' => ?_)
        clear hK K hH
        have hH := hH'
        clear hH'
        try simp only [List.setIfInBounds_toArray, List.set]
        replace O7w : Hid (Own y1w136 b7w) := O7w.out.later hb1w136
        replace O8w : Hid (Own y1w136 b8w) := O8w.out.later hb1w136
        clear hb1w136
        refine wpAnyH_ready (rs := [5]) (by kernel_rfl) (by simp) ?_
        refine AllReadyH.cons (o := ?o51w137) ?h51w137 (fun K hK => ?_) AllReadyH.nil
        case h51w137 => simp only [List.getElem?_toArray]; rfl
        go_simp
        refine (swap_odd z11 z13 n hz11 hz13 hn hp.out _).mono ?_
        rintro e y1w137 ⟨rfl, hb1w137⟩
        refine hK.out _ _ (hH.trans hb1w137) (fun hH' => ?_)
        clear hK K hH
        have hH := hH'
        clear hH'
        try simp only [List.setIfInBounds_toArray, List.set]
        replace O7w : Hid (Own y1w137 b7w) := O7w.out.later hb1w137
        replace O8w : Hid (Own y1w137 b8w) := O8w.out.later hb1w137
        clear hb1w137
        refine wpAnyH_take (i := 6) (oi := ?o61w138) (v := ?v61w138) ?h61w138 (by kernel_rfl) ?f61w138 ?r61w138 (fun _ _ _ h => h) (Or.inl ⟨?w61w138, ?y61w138⟩) (by assumption) ?t61w138
        case h61w138 => simp only [List.getElem?_toArray]; rfl
        case f61w138 => kernel_rfl
        case r61w138 => kernel_rfl
        case w61w138 => rfl
        case y61w138 => (intro u hu; (go_simp) <;> with_reducible rfl)
        try simp only [Act.put, List.setIfInBounds_toArray, List.set_cons_zero, List.set_cons_succ]
        refine wpAnyH_take (i := 7) (oi := ?o71w139) (v := ?v71w139) ?h71w139 (by kernel_rfl) ?f71w139 ?r71w139 (fun _ _ _ h => h) (Or.inl ⟨?w71w139, ?y71w139⟩) (by assumption) ?t71w139
        case h71w139 => simp only [List.getElem?_toArray]; rfl
        case f71w139 => kernel_rfl
        case r71w139 => kernel_rfl
        case w71w139 => rfl
        case y71w139 => (intro u hu; (go_simp) <;> with_reducible rfl)
        try simp only [Act.put, List.setIfInBounds_toArray, List.set_cons_zero, List.set_cons_succ]
        refine wpAnyH_take (i := 8) (oi := ?o81w140) (v := ?v81w140) ?h81w140 (by kernel_rfl) ?f81w140 ?r81w140 (fun _ _ _ h => h) (Or.inl ⟨?w81w140, ?y81w140⟩) (by assumption) ?t81w140
        case h81w140 => simp only [List.getElem?_toArray]; rfl
        case f81w140 => kernel_rfl
        case r81w140 => kernel_rfl
        case w81w140 => rfl
        case y81w140 => (intro u hu; (go_simp) <;> with_reducible rfl)
        try simp only [Act.put, List.setIfInBounds_toArray, List.set_cons_zero, List.set_cons_succ]
        obtain ⟨⟨_, nc0⟩, ⟨_, nc1⟩, ⟨_, nc2⟩, ⟨_, nc3⟩, nf0, nf1, nf2, nf3⟩ := O7w.out
        refine wpAnyH_ready (rs := [11]) (by kernel_rfl) (by simp) ?_
        refine AllReadyH.cons (o := ?o111w141) ?h111w141 (fun K hK => ?_) AllReadyH.nil
        case h111w141 => simp only [List.getElem?_toArray]; rfl
        go_simp
        refine hK.out _ _ (hH.set4 _ (by omega) _ _ _ _) (fun hH' => ?_)
        clear hK K hH
        have hH := hH'
        clear hH'
        try simp only [List.setIfInBounds_toArray, List.set]
        have V7w : Hid (Var ((((y1w137.setCell ⟨b7w, 0, none⟩ (.int .u64 (e0 z13))).setCell ⟨b7w, 1, none⟩ (.int .u64 (e1 z13))).setCell ⟨b7w, 2, none⟩ (.int .u64 (e2 z13))).setCell ⟨b7w, 3, none⟩ (.int .u64 (e3 z13))) b7w z13) := var_set y1w137 b7w z13 O7w.out
        replace O8w : Hid (Own ((((y1w137.setCell ⟨b7w, 0, none⟩ (.int .u64 (e0 z13))).setCell ⟨b7w, 1, none⟩ (.int .u64 (e1 z13))).setCell ⟨b7w, 2, none⟩ (.int .u64 (e2 z13))).setCell ⟨b7w, 3, none⟩ (.int .u64 (e3 z13))) b8w) := own_other O8w.out (by omega) _ _ _ _
        replace O7w : Hid (Own ((((y1w137.setCell ⟨b7w, 0, none⟩ (.int .u64 (e0 z13))).setCell ⟨b7w, 1, none⟩ (.int .u64 (e1 z13))).setCell ⟨b7w, 2, none⟩ (.int .u64 (e2 z13))).setCell ⟨b7w, 3, none⟩ (.int .u64 (e3 z13))) b7w) := own_set O7w.out _ _ _ _
        clear nc0 nc1 nc2 nc3 nf0 nf1 nf2 nf3
        generalize (((y1w137.setCell ⟨b7w, 0, none⟩ (.int .u64 (e0 z13))).setCell ⟨b7w, 1, none⟩ (.int .u64 (e1 z13))).setCell ⟨b7w, 2, none⟩ (.int .u64 (e2 z13))).setCell ⟨b7w, 3, none⟩ (.int .u64 (e3 z13)) = x1w141 at *
        obtain ⟨⟨_, nc0⟩, ⟨_, nc1⟩, ⟨_, nc2⟩, ⟨_, nc3⟩, nf0, nf1, nf2, nf3⟩ := O8w.out
        refine wpAnyH_ready (rs := [12]) (by kernel_rfl) (by simp) ?_
        refine AllReadyH.cons (o := ?o121w142) ?h121w142 (fun K hK => ?_) AllReadyH.nil
        case h121w142 => simp only [List.getElem?_toArray]; rfl
        go_simp
        refine hK.out _ _ (hH.set4 _ (by omega) _ _ _ _) (fun hH' => ?_)
        clear hK K hH
        have hH := hH'
        clear hH'
        try simp only [List.setIfInBounds_toArray, List.set]
        have V8w : Hid (Var ((((x1w141.setCell ⟨b8w, 0, none⟩ (.int .u64 (e0 z11))).setCell ⟨b8w, 1, none⟩ (.int .u64 (e1 z11))).setCell ⟨b8w, 2, none⟩ (.int .u64 (e2 z11))).setCell ⟨b8w, 3, none⟩ (.int .u64 (e3 z11))) b8w z11) := var_set x1w141 b8w z11 O8w.out
        replace V7w : Hid (Var ((((x1w141.setCell ⟨b8w, 0, none⟩ (.int .u64 (e0 z11))).setCell ⟨b8w, 1, none⟩ (.int .u64 (e1 z11))).setCell ⟨b8w, 2, none⟩ (.int .u64 (e2 z11))).setCell ⟨b8w, 3, none⟩ (.int .u64 (e3 z11))) b7w z13) := var_other V7w.out (by omega) _ _ _ _
        replace O7w : Hid (Own ((((x1w141.setCell ⟨b8w, 0, none⟩ (.int .u64 (e0 z11))).setCell ⟨b8w, 1, none⟩ (.int .u64 (e1 z11))).setCell ⟨b8w, 2, none⟩ (.int .u64 (e2 z11))).setCell ⟨b8w, 3, none⟩ (.int .u64 (e3 z11))) b7w) := own_other O7w.out (by omega) _ _ _ _
        replace O8w : Hid (Own ((((x1w141.setCell ⟨b8w, 0, none⟩ (.int .u64 (e0 z11))).setCell ⟨b8w, 1, none⟩ (.int .u64 (e1 z11))).setCell ⟨b8w, 2, none⟩ (.int .u64 (e2 z11))).setCell ⟨b8w, 3, none⟩ (.int .u64 (e3 z11))) b8w) := own_set O8w.out _ _ _ _
        clear nc0 nc1 nc2 nc3 nf0 nf1 nf2 nf3
        generalize (((x1w141.setCell ⟨b8w, 0, none⟩ (.int .u64 (e0 z11))).setCell ⟨b8w, 1, none⟩ (.int .u64 (e1 z11))).setCell ⟨b8w, 2, none⟩ (.int .u64 (e2 z11))).setCell ⟨b8w, 3, none⟩ (.int .u64 (e3 z11)) = x1w142 at *
        refine wpAnyH_done (by kernel_rfl) ?_ _
        refine NoPanic.normal ?_
        go_wp2_with fail
        go_meet
        case rel => exact ⟨_, _, _, _, rfl, hz13, Hz13, V7w, hg7, O7w, rfl, hz11, Hz11, V8w, hg8, O8w, (by omega), hH⟩
    case c101w4 =>
      go_simp
      have hL8 : W0.heap.size ≤ y0.heap.size := hH.size
      refine hK.out _ _ (hH.trans (bel1 _ _)) (fun hH' => ?_)
      clear hK K hH
      have hH := hH'
      clear hH'
      try simp only [List.setIfInBounds_toArray, List.set]
      have O8w : Hid (Own (y0.alloc (.cells #[.int .u64 0, .int .u64 0, .int .u64 0, .int .u64 0] 28)) y0.heap.size) := own_new y0 _ _ _ _ _
      generalize y0.alloc (.cells #[.int .u64 0, .int .u64 0, .int .u64 0, .int .u64 0] 28) = x1w143 at *
      generalize y0.heap.size = b8w at *
      have hg8 : W0.heap.size ≤ b8w := hL8
      refine wpAnyH_ready (rs := [1, 9]) (by kernel_rfl) (by simp) ?_
      refine AllReadyH.cons (o := ?o11w144) ?h11w144 (fun K hK => ?c11w144) (AllReadyH.cons (o := ?o91w144) ?h91w144 (fun K hK => ?c91w144) AllReadyH.nil)
      case h11w144 => simp only [List.getElem?_toArray]; rfl
      case h91w144 => simp only [List.getElem?_toArray]; rfl
      case c11w144 =>
        go_simp
        refine (from_e a ha _).mono ?_
        rintro e y1w145 ⟨z11, rfl, hz11, Hz11, hb1w145⟩
        refine hK.out _ _ (hH.trans hb1w145) (fun hH' => ?_)
        clear hK K hH
        have hH := hH'
        clear hH'
        try simp only [List.setIfInBounds_toArray, List.set]
        replace O8w : Hid (Own y1w145 b8w) := O8w.out.later hb1w145
        clear hb1w145
        refine wpAnyH_ready (rs := [3, 9]) (by kernel_rfl) (by simp) ?_
        refine AllReadyH.cons (o := ?o31w146) ?h31w146 (fun K hK => ?c31w146) (AllReadyH.cons (o := ?o91w146) ?h91w146 (fun K hK => ?c91w146) AllReadyH.nil)
        case h31w146 => simp only [List.getElem?_toArray]; rfl
        case h91w146 => simp only [List.getElem?_toArray]; rfl
        case c31w146 =>
          go_simp
          refine (from_e b hb _).mono ?_
          rintro e y1w147 ⟨z13, rfl, hz13, Hz13, hb1w147⟩
          refine hK.out _ _ (hH.trans hb1w147) (fun hH' => ?_)
          clear hK K hH
          have hH := hH'
          clear hH'
          try simp only [List.setIfInBounds_toArray, List.set]
          replace O8w : Hid (Own y1w147 b8w) := O8w.out.later hb1w147
          clear hb1w147
          refine wpAnyH_ready (rs := [5, 9]) (by kernel_rfl) (by simp) ?_
          refine AllReadyH.cons (o := ?o51w148) ?h51w148 (fun K hK => ?c51w148) (AllReadyH.cons (o := ?o91w148) ?h91w148 (fun K hK => ?c91w148) AllReadyH.nil)
          case h51w148 => simp only [List.getElem?_toArray]; rfl
          case h91w148 => simp only [List.getElem?_toArray]; rfl
          case c51w148 =>
            go_simp
            refine (swap_odd z11 z13 n hz11 hz13 hn hp.out _).mono ?_
            rintro e y1w149 ⟨rfl, hb1w149⟩
            refine hK.out _ _ (hH.trans hb1w149) (fun hH' => ?_)
            clear hK K hH
            have hH := hH'
            clear hH'
            try simp only [List.setIfInBounds_toArray, List.set]
            replace O8w : Hid (Own y1w149 b8w) := O8w.out.later hb1w149
            clear hb1w149
            refine wpAnyH_take (i := 6) (oi := ?o61w150) (v := ?v61w150) ?h61w150 (by kernel_rfl) ?f61w150 ?r61w150 (fun _ _ _ h => h) (Or.inl ⟨?w61w150, ?y61w150⟩) (by assumption) ?t61w150
            case h61w150 => simp only [List.getElem?_toArray]; rfl
            case f61w150 => kernel_rfl
            case r61w150 => kernel_rfl
            case w61w150 => rfl
            case y61w150 => (intro u hu; (go_simp) <;> with_reducible rfl)
            try simp only [Act.put, List.setIfInBounds_toArray, List.set_cons_zero, List.set_cons_succ]
            refine wpAnyH_take (i := 7) (oi := ?o71w151) (v := ?v71w151) ?h71w151 (by kernel_rfl) ?f71w151 ?r71w151 (fun _ _ _ h => h) (Or.inl ⟨?w71w151, ?y71w151⟩) (by assumption) ?t71w151
            case h71w151 => simp only [List.getElem?_toArray]; rfl
            case f71w151 => kernel_rfl
            case r71w151 => kernel_rfl
            case w71w151 => rfl
            case y71w151 => (intro u hu; (go_simp) <;> with_reducible rfl)
            try simp only [Act.put, List.setIfInBounds_toArray, List.set_cons_zero, List.set_cons_succ]
            refine wpAnyH_take (i := 8) (oi := ?o81w152) (v := ?v81w152) ?h81w152 (by kernel_rfl) ?f81w152 ?r81w152 (fun _ _ _ h => h) (Or.inl ⟨?w81w152, ?y81w152⟩) (by assumption) ?t81w152
            case h81w152 => simp only [List.getElem?_toArray]; rfl
            case f81w152 => kernel_rfl
            case r81w152 => kernel_rfl
            case w81w152 => rfl
            case y81w152 => (intro u hu; (go_simp) <;> with_reducible rfl)
            try simp only [Act.put, List.setIfInBounds_toArray, List.set_cons_zero, List.set_cons_succ]
            refine wpAnyH_ready (rs := [9]) (by kernel_rfl) (by simp) ?_
            refine AllReadyH.cons (o := ?o91w153) ?h91w153 (fun K hK => ?_) AllReadyH.nil
            case h91w153 => simp only [List.getElem?_toArray]; rfl
            go_simp
            have hL7 : W0.heap.size ≤ y1w149.heap.size := hH.size
            have lt8_7 : b8w < y1w149.heap.size := O8w.out.lt
            refine hK.out _ _ (hH.trans (bel1 _ _)) (fun hH' => ?_)
            clear hK K hH
            have hH := hH'
            clear hH'
            try simp only [List.setIfInBounds_toArray, List.set]
            have O7w : Hid (Own (y1w149.alloc (.cells #[.int .u64 0, .int .u64 0, .int .u64 0, .int .u64 0] 28)) y1w149.heap.size) := own_new y1w149 _ _ _ _ _
            replace O8w : Hid (Own (y1w149.alloc (.cells #[.int .u64 0, .int .u64 0, .int .u64 0, .int .u64 0] 28)) b8w) := O8w.out.later (bel1 _ _)
            generalize y1w149.alloc (.cells #[.int .u64 0, .int .u64 0, .int .u64 0, .int .u64 0] 28) = x1w153 at *
            generalize y1w149.heap.size = b7w at *
            have hg7 : W0.heap.size ≤ b7w := hL7
            obtain ⟨⟨_, nc0⟩, ⟨_, nc1⟩, ⟨_, nc2⟩, ⟨_, nc3⟩, nf0, nf1, nf2, nf3⟩ := O7w.out
            refine wpAnyH_ready (rs := [11]) (by kernel_rfl) (by simp) ?_
            refine AllReadyH.cons (o := ?o111w154) ?h111w154 (fun K hK => ?_) AllReadyH.nil
            case h111w154 => simp only [List.getElem?_toArray]; rfl
            go_simp
            refine hK.out _ _ (hH.set4 _ (by omega) _ _ _ _) (fun hH' => ?_)
            clear hK K hH
            have hH := hH'
            clear hH'
            try simp only [List.setIfInBounds_toArray, List.set]
            have V7w : Hid (Var ((((x1w153.setCell ⟨b7w, 0, none⟩ (.int .u64 (e0 z13))).setCell ⟨b7w, 1, none⟩ (.int .u64 (e1 z13))).setCell ⟨b7w, 2, none⟩ (.int .u64 (e2 z13))).setCell ⟨b7w, 3, none⟩ (.int .u64 (e3 z13))) b7w z13) := var_set x1w153 b7w z13 O7w.out
            replace O8w : Hid (Own ((((x1w153.setCell ⟨b7w, 0, none⟩ (.int .u64 (e0 z13))).setCell ⟨b7w, 1, none⟩ (.int .u64 (e1 z13))).setCell ⟨b7w, 2, none⟩ (.int .u64 (e2 z13))).setCell ⟨b7w, 3, none⟩ (.int .u64 (e3 z13))) b8w) := own_other O8w.out (by omega) _ _ _ _
            replace O7w : Hid (Own ((((x1w153.setCell ⟨b7w, 0, none⟩ (.int .u64 (e0 z13))).setCell ⟨b7w, 1, none⟩ (.int .u64 (e1 z13))).setCell ⟨b7w, 2, none⟩ (.int .u64 (e2 z13))).setCell ⟨b7w, 3, none⟩ (.int .u64 (e3 z13))) b7w) := own_set O7w.out _ _ _ _
            clear nc0 nc1 nc2 nc3 nf0 nf1 nf2 nf3
            generalize (((x1w153.setCell ⟨b7w, 0, none⟩ (.int .u64 (e0 z13))).setCell ⟨b7w, 1, none⟩ (.int .u64 (e1 z13))).setCell ⟨b7w, 2, none⟩ (.int .u64 (e2 z13))).setCell ⟨b7w, 3, none⟩ (.int .u64 (e3 z13)) = x1w154 at *
            obtain ⟨⟨_, nc0⟩, ⟨_, nc1⟩, ⟨_, nc2⟩, ⟨_, nc3⟩, nf0, nf1, nf2, nf3⟩ := O8w.out
            refine wpAnyH_ready (rs := [12]) (by kernel_rfl) (by simp) ?_
            refine AllReadyH.cons (o := ?o121w155) ?h121w155 (fun K hK => ?_) AllReadyH.nil
            case h121w155 => simp only [List.getElem?_toArray]; rfl
            go_simp
            refine hK.out _ _ (hH.set4 _ (by omega) _ _ _ _) (fun hH' => ?_)
            clear hK K hH
            have hH := hH'
            clear hH'
            try simp only [List.setIfInBounds_toArray, List.set]
            have V8w : Hid (Var ((((x1w154.setCell ⟨b8w, 0, none⟩ (.int .u64 (e0 z11))).setCell ⟨b8w, 1, none⟩ (.int .u64 (e1 z11))).setCell ⟨b8w, 2, none⟩ (.int .u64 (e2 z11))).setCell ⟨b8w, 3, none⟩ (.int .u64 (e3 z11))) b8w z11) := var_set x1w154 b8w z11 O8w.out
            replace V7w : Hid (Var ((((x1w154.setCell ⟨b8w, 0, none⟩ (.int .u64 (e0 z11))).setCell ⟨b8w, 1, none⟩ (.int .u64 (e1 z11))).setCell ⟨b8w, 2, none⟩ (.int .u64 (e2 z11))).setCell ⟨b8w, 3, none⟩ (.int .u64 (e3 z11))) b7w z13) := var_other V7w.out (by omega) _ _ _ _
            replace O7w : Hid (Own ((((x1w154.setCell ⟨b8w, 0, none⟩ (.int .u64 (e0 z11))).setCell ⟨b8w, 1, none⟩ (.int .u64 (e1 z11))).setCell ⟨b8w, 2, none⟩ (.int .u64 (e2 z11))).setCell ⟨b8w, 3, none⟩ (.int .u64 (e3 z11))) b7w) := own_other O7w.out (by omega) _ _ _ _
            replace O8w : Hid (Own ((((x1w154.setCell ⟨b8w, 0, none⟩ (.int .u64 (e0 z11))).setCell ⟨b8w, 1, none⟩ (.int .u64 (e1 z11))).setCell ⟨b8w, 2, none⟩ (.int .u64 (e2 z11))).setCell ⟨b8w, 3, none⟩ (.int .u64 (e3 z11))) b8w) := own_set O8w.out _ _ _ _
            clear nc0 nc1 nc2 nc3 nf0 nf1 nf2 nf3
            generalize (((x1w154.setCell ⟨b8w, 0, none⟩ (.int .u64 (e0 z11))).setCell ⟨b8w, 1, none⟩ (.int .u64 (e1 z11))).setCell ⟨b8w, 2, none⟩ (.int .u64 (e2 z11))).setCell ⟨b8w, 3, none⟩ (.int .u64 (e3 z11)) = x1w155 at *
            refine wpAnyH_done (by kernel_rfl) ?_ _
            refine NoPanic.normal ?_
            go_wp2_with fail
            go_meet
            case rel => exact ⟨_, _, _, _, rfl, hz13, Hz13, V7w, hg7, O7w, rfl, hz11, Hz11, V8w, hg8, O8w, (by omega), hH⟩
          case c91w148 =>
            go_simp
            have hL7 : W0.heap.size ≤ y1w147.heap.size := hH.size
            have lt8_7 : b8w < y1w147.heap.size := O8w.out.lt
            refine hK.out _ _ (hH.trans (bel1 _ _)) (fun hH' => ?_)
            clear hK K hH
            have hH := hH'
            clear hH'
            try simp only [List.setIfInBounds_toArray, List.set]
            have O7w : Hid (Own (y1w147.alloc (.cells #[.int .u64 0, .int .u64 0, .int .u64 0, .int .u64 0] 28)) y1w147.heap.size) := own_new y1w147 _ _ _ _ _
            replace O8w : Hid (Own (y1w147.alloc (.cells #[.int .u64 0, .int .u64 0, .int .u64 0, .int .u64 0] 28)) b8w) := O8w.out.later (bel1 _ _)
            generalize y1w147.alloc (.cells #[.int .u64 0, .int .u64 0, .int .u64 0, .int .u64 0] 28) = x1w156 at *
            generalize y1w147.heap.size = b7w at *
            have hg7 : W0.heap.size ≤ b7w := hL7
            refine wpAnyH_ready (rs := [5]) (by kernel_rfl) (by simp) ?_
            refine AllReadyH.cons (o := ?o51w157) ?h51w157 (fun K hK => ?_) AllReadyH.nil
            case h51w157 => simp only [List.getElem?_toArray]; rfl
            go_simp
            refine (swap_odd z11 z13 n hz11 hz13 hn hp.out _).mono ?_
            rintro e y1w157 ⟨rfl, hb1w157⟩
            refine hK.out _ _ (hH.trans hb1w157) (fun hH' => ?_)
            clear hK K hH
            have hH := hH'
            clear hH'
            try simp only [List.setIfInBounds_toArray, List.set]
            replace O8w : Hid (Own y1w157 b8w) := O8w.out.later hb1w157
            replace O7w : Hid (Own y1w157 b7w) := O7w.out.later hb1w157
            clear hb1w157
            refine wpAnyH_take (i := 6) (oi := ?o61w158) (v := ?v61w158) ?h61w158 (by kernel_rfl) ?f61w158 ?r61w158 (fun _ _ _ h => h) (Or.inl ⟨?w61w158, ?y61w158⟩) (by assumption) ?t61w158
            case h61w158 => simp only [List.getElem?_toArray]; rfl
            case f61w158 => kernel_rfl
            case r61w158 => kernel_rfl
            case w61w158 => rfl
            case y61w158 => (intro u hu; (go_simp) <;> with_reducible rfl)
            try simp only [Act.put, List.setIfInBounds_toArray, List.set_cons_zero, List.set_cons_succ]
            refine wpAnyH_take (i := 7) (oi := ?o71w159) (v := ?v71w159) ?h71w159 (by kernel_rfl) ?f71w159 ?r71w159 (fun _ _ _ h => h) (Or.inl ⟨?w71w159, ?y71w159⟩) (by assumption) ?t71w159
            case h71w159 => simp only [List.getElem?_toArray]; rfl
            case f71w159 => kernel_rfl
            case r71w159 => kernel_rfl
            case w71w159 => rfl
            case y71w159 => (intro u hu; (go_simp) <;> with_reducible rfl)
            try simp only [Act.put, List.setIfInBounds_toArray, List.set_cons_zero, List.set_cons_succ]
            refine wpAnyH_take (i := 8) (oi := ?o81w160) (v := ?v81w160) ?h81w160 (by kernel_rfl) ?f81w160 ?r81w160 (fun _ _ _ h => h) (Or.inl ⟨?w81w160, ?y81w160⟩) (by assumption) ?t81w160
            case h81w160 => simp only [List.getElem?_toArray]; rfl
            case f81w160 => kernel_rfl
            case r81w160 => kernel_rfl
            case w81w160 => rfl
            case y81w160 => (intro u hu; (go_simp) <;> with_reducible rfl)
            try simp only [Act.put, List.setIfInBounds_toArray, List.set_cons_zero, List.set_cons_succ]
            obtain ⟨⟨_, nc0⟩, ⟨_, nc1⟩, ⟨_, nc2⟩, ⟨_, nc3⟩, nf0, nf1, nf2, nf3⟩ := O7w.out
            refine wpAnyH_ready (rs := [11]) (by kernel_rfl) (by simp) ?_
            refine AllReadyH.cons (o := ?o111w161) ?h111w161 (fun K hK => ?_) AllReadyH.nil
            case h111w161 => simp only [List.getElem?_toArray]; rfl
            go_simp
            refine hK.out _ _ (hH.set4 _ (by omega) _ _ _ _) (fun hH' => ?_)
            clear hK K hH
            have hH := hH'
            clear hH'
            try simp only [List.setIfInBounds_toArray, List.set]
            have V7w : Hid (Var ((((y1w157.setCell ⟨b7w, 0, none⟩ (.int .u64 (e0 z13))).setCell ⟨b7w, 1, none⟩ (.int .u64 (e1 z13))).setCell ⟨b7w, 2, none⟩ (.int .u64 (e2 z13))).setCell ⟨b7w, 3, none⟩ (.int .u64 (e3 z13))) b7w z13) := var_set y1w157 b7w z13 O7w.out
            replace O8w : Hid (Own ((((y1w157.setCell ⟨b7w, 0, none⟩ (.int .u64 (e0 z13))).setCell ⟨b7w, 1, none⟩ (.int .u64 (e1 z13))).setCell ⟨b7w, 2, none⟩ (.int .u64 (e2 z13))).setCell ⟨b7w, 3, none⟩ (.int .u64 (e3 z13))) b8w) := own_other O8w.out (by omega) _ _ _ _
            replace O7w : Hid (Own ((((y1w157.setCell ⟨b7w, 0, none⟩ (.int .u64 (e0 z13))).setCell ⟨b7w, 1, none⟩ (.int .u64 (e1 z13))).setCell ⟨b7w, 2, none⟩ (.int .u64 (e2 z13))).setCell ⟨b7w, 3, none⟩ (.int .u64 (e3 z13))) b7w) := own_set O7w.out _ _ _ _
            clear nc0 nc1 nc2 nc3 nf0 nf1 nf2 nf3
            generalize (((y1w157.setCell ⟨b7w, 0, none⟩ (.int .u64 (e0 z13))).setCell ⟨b7w, 1, none⟩ (.int .u64 (e1 z13))).setCell ⟨b7w, 2, none⟩ (.int .u64 (e2 z13))).setCell ⟨b7w, 3, none⟩ (.int .u64 (e3 z13)) = x1w161 at *
            obtain ⟨⟨_, nc0⟩, ⟨_, nc1⟩, ⟨_, nc2⟩, ⟨_, nc3⟩, nf0, nf1, nf2, nf3⟩ := O8w.out
            refine wpAnyH_ready (rs := [12]) (by kernel_rfl) (by simp) ?_
            refine AllReadyH.cons (o := ?o121w162) ?h121w162 (fun K hK => ?_) AllReadyH.nil
            case h121w162 => simp only [List.getElem?_toArray]; rfl
            go_simp
            refine hK.out _ _ (hH.set4 _ (by omega) _ _ _ _) (fun hH' => ?_)
            clear hK K hH
            have hH := hH'
            clear hH'
            try simp only [List.setIfInBounds_toArray, List.set]
            have V8w : Hid (Var ((((x1w161.setCell ⟨b8w, 0, none⟩ (.int .u64 (e0 z11))).setCell ⟨b8w, 1, none⟩ (.int .u64 (e1 z11))).setCell ⟨b8w, 2, none⟩ (.int .u64 (e2 z11))).setCell ⟨b8w, 3, none⟩ (.int .u64 (e3 z11))) b8w z11) := var_set x1w161 b8w z11 O8w.out
            replace V7w : Hid (Var ((((x1w161.setCell ⟨b8w, 0, none⟩ (.int .u64 (e0 z11))).setCell ⟨b8w, 1, none⟩ (.int .u64 (e1 z11))).setCell ⟨b8w, 2, none⟩ (.int .u64 (e2 z11))).setCell ⟨b8w, 3, none⟩ (.int .u64 (e3 z11))) b7w z13) := var_other V7w.out (by omega) _ _ _ _
            replace O7w : Hid (Own ((((x1w161.setCell ⟨b8w, 0, none⟩ (.int .u64 (e0 z11))).setCell ⟨b8w, 1, none⟩ (.int .u64 (e1 z11))).setCell ⟨b8w, 2, none⟩ (.int .u64 (e2 z11))).setCell ⟨b8w, 3, none⟩ (.int .u64 (e3 z11))) b7w) := own_other O7w.out (by omega) _ _ _ _
            replace O8w : Hid (Own ((((x1w161.setCell ⟨b8w, 0, none⟩ (.int .u64 (e0 z11))).setCell ⟨b8w, 1, none⟩ (.int .u64 (e1 z11))).setCell ⟨b8w, 2, none⟩ (.int .u64 (e2 z11))).setCell ⟨b8w, 3, none⟩ (.int .u64 (e3 z11))) b8w) := own_set O8w.out _ _ _ _
            clear nc0 nc1 nc2 nc3 nf0 nf1 nf2 nf3
            generalize (((x1w161.setCell ⟨b8w, 0, none⟩ (.int .u64 (e0 z11))).setCell ⟨b8w, 1, none⟩ (.int .u64 (e1 z11))).setCell ⟨b8w, 2, none⟩ (.int .u64 (e2 z11))).setCell ⟨b8w, 3, none⟩ (.int .u64 (e3 z11)) = x1w162 at *
            refine wpAnyH_done (by kernel_rfl) ?_ _
            refine NoPanic.normal ?_
            go_wp2_with fail
            go_meet
            case rel => exact ⟨_, _, _, _, rfl, hz13, Hz13, V7w, hg7, O7w, rfl, hz11, Hz11, V8w, hg8, O8w, (by omega), hH⟩
        case c91w146 =>
          go_simp
          have hL7 : W0.heap.size ≤ y1w145.heap.size := hH.size
          have lt8_7 : b8w < y1w145.heap.size := O8w.out.lt
          refine hK.out _ _ (hH.trans (bel1 _ _)) (fun hH' => ?_)
          clear hK K hH
          have hH := hH'
          clear hH'
          try simp only [List.setIfInBounds_toArray, List.set]
          have O7w : Hid (Own (y1w145.alloc (.cells #[.int .u64 0, .int .u64 0, .int .u64 0, .int .u64 0] 28)) y1w145.heap.size) := own_new y1w145 _ _ _ _ _
          replace O8w : Hid (Own (y1w145.alloc (.cells #[.int .u64 0, .int .u64 0, .int .u64 0, .int .u64 0] 28)) b8w) := O8w.out.later (bel1 _ _)
          generalize y1w145.alloc (.cells #[.int .u64 0, .int .u64 0, .int .u64 0, .int .u64 0] 28) = x1w163 at *
          generalize y1w145.heap.size = b7w at *
          have hg7 : W0.heap.size ≤ b7w := hL7
          refine wpAnyH_ready (rs := [3]) (by kernel_rfl) (by simp) ?_
          refine AllReadyH.cons (o := ?o31w164) ?h31w164 (fun K hK => ?_) AllReadyH.nil
          case h31w164 => simp only [List.getElem?_toArray]; rfl
          go_simp
          refine (from_e b hb _).mono ?_
          rintro e y1w164 ⟨z13, rfl, hz13, Hz13, hb1w164⟩
          refine hK.out _ _ (hH.trans hb1w164) (fun hH' => ?_)
          clear hK K hH
          have hH := hH'
          clear hH'
          try simp only [List.setIfInBounds_toArray, List.set]
          replace O8w : Hid (Own y1w164 b8w) := O8w.out.later hb1w164
          replace O7w : Hid (Own y1w164 b7w) := O7w.out.later hb1w164
          clear hb1w164
          refine wpAnyH_ready (rs := [5]) (by kernel_rfl) (by simp) ?_
          refine AllReadyH.cons (o := ?o51w165) ?h51w165 (fun K hK => ?_) AllReadyH.nil
          case h51w165 => simp only [List.getElem?_toArray]; rfl
          go_simp
          refine (swap_odd z11 z13 n hz11 hz13 hn hp.out _).mono ?_
          rintro e y1w165 ⟨rfl, hb1w165⟩
          refine hK.out _ _ (hH.trans hb1w165) (fun hH' => ?_)
          clear hK K hH
          have hH := hH'
          clear hH'
          try simp only [List.setIfInBounds_toArray, List.set]
          replace O8w : Hid (Own y1w165 b8w) := O8w.out.later hb1w165
          replace O7w : Hid (Own y1w165 b7w) := O7w.out.later hb1w165
          clear hb1w165
          refine wpAnyH_take (i := 6) (oi := ?o61w166) (v := ?v61w166) ?h61w166 (by kernel_rfl) ?f61w166 ?r61w166 (fun _ _ _ h => h) (Or.inl ⟨?w61w166, ?y61w166⟩) (by assumption) ?t61w166
          case h61w166 => simp only [List.getElem?_toArray]; rfl
          case f61w166 => kernel_rfl
          case r61w166 => kernel_rfl
          case w61w166 => rfl
          case y61w166 => (intro u hu; (go_simp) <;> with_reducible rfl)
          try simp only [Act.put, List.setIfInBounds_toArray, List.set_cons_zero, List.set_cons_succ]
          refine wpAnyH_take (i := 7) (oi := ?o71w167) (v := ?v71w167) ?h71w167 (by kernel_rfl) ?f71w167 ?r71w167 (fun _ _ _ h => h) (Or.inl ⟨?w71w167, ?y71w167⟩) (by assumption) ?t71w167
          case h71w167 => simp only [List.getElem?_toArray]; rfl
          case f71w167 => kernel_rfl
          case r71w167 => kernel_rfl
          case w71w167 => rfl
          case y71w167 => (intro u hu; (go_simp) <;> with_reducible rfl)
          try simp only [Act.put, List.setIfInBounds_toArray, List.set_cons_zero, List.set_cons_succ]
          refine wpAnyH_take (i := 8) (oi := ?o81w168) (v := ?v81w168) ?h81w168 (by kernel_rfl) ?f81w168 ?r81w168 (fun _ _ _ h => h) (Or.inl ⟨?w81w168, ?y81w168⟩) (by assumption) ?t81w168
          case h81w168 => simp only [List.getElem?_toArray]; rfl
          case f81w168 => kernel_rfl
          case r81w168 => kernel_rfl
          case w81w168 => rfl
          case y81w168 => (intro u hu; (go_simp) <;> with_reducible rfl)
          try simp only [Act.put, List.setIfInBounds_toArray, List.set_cons_zero, List.set_cons_succ]
          obtain ⟨⟨_, nc0⟩, ⟨_, nc1⟩, ⟨_, nc2⟩, ⟨_, nc3⟩, nf0, nf1, nf2, nf3⟩ := O7w.out
          refine wpAnyH_ready (rs := [11]) (by kernel_rfl) (by simp) ?_
          refine AllReadyH.cons (o := ?o111w169) ?h111w169 (fun K hK => ?_) AllReadyH.nil
          case h111w169 => simp only [List.getElem?_toArray]; rfl
          go_simp
          refine hK.out _ _ (hH.set4 _ (by omega) _ _ _ _) (fun hH' => ?_)
          clear hK K hH
          have hH := hH'
          clear hH'
          try simp only [List.setIfInBounds_toArray, List.set]
          have V7w : Hid (Var ((((y1w165.setCell ⟨b7w, 0, none⟩ (.int .u64 (e0 z13))).setCell ⟨b7w, 1, none⟩ (.int .u64 (e1 z13))).setCell ⟨b7w, 2, none⟩ (.int .u64 (e2 z13))).setCell ⟨b7w, 3, none⟩ (.int .u64 (e3 z13))) b7w z13) := var_set y1w165 b7w z13 O7w.out
          replace O8w : Hid (Own ((((y1w165.setCell ⟨b7w, 0, none⟩ (.int .u64 (e0 z13))).setCell ⟨b7w, 1, none⟩ (.int .u64 (e1 z13))).setCell ⟨b7w, 2, none⟩ (.int .u64 (e2 z13))).setCell ⟨b7w, 3, none⟩ (.int .u64 (e3 z13))) b8w) := own_other O8w.out (by omega) _ _ _ _
          replace O7w : Hid (Own ((((y1w165.setCell ⟨b7w, 0, none⟩ (.int .u64 (e0 z13))).setCell ⟨b7w, 1, none⟩ (.int .u64 (e1 z13))).setCell ⟨b7w, 2, none⟩ (.int .u64 (e2 z13))).setCell ⟨b7w, 3, none⟩ (.int .u64 (e3 z13))) b7w) := own_set O7w.out _ _ _ _
          clear nc0 nc1 nc2 nc3 nf0 nf1 nf2 nf3
          generalize (((y1w165.setCell ⟨b7w, 0, none⟩ (.int .u64 (e0 z13))).setCell ⟨b7w, 1, none⟩ (.int .u64 (e1 z13))).setCell ⟨b7w, 2, none⟩ (.int .u64 (e2 z13))).setCell ⟨b7w, 3, none⟩ (.int .u64 (e3 z13)) = x1w169 at *
          obtain ⟨⟨_, nc0⟩, ⟨_, nc1⟩, ⟨_, nc2⟩, ⟨_, nc3⟩, nf0, nf1, nf2, nf3⟩ := O8w.out
          refine wpAnyH_ready (rs := [12]) (by kernel_rfl) (by simp) ?_
          refine AllReadyH.cons (o := ?o121w170) ?h121w170 (fun K hK => ?_) AllReadyH.nil
          case h121w170 => simp only [List.getElem?_toArray]; rfl
          go_simp
          refine hK.out _ _ (hH.set4 _ (by omega) _ _ _ _) (fun hH' => ?_)
          clear hK K hH
          have hH := hH'
          clear hH'
          try simp only [List.setIfInBounds_toArray, List.set]
          have V8w : Hid (Var ((((x1w169.setCell ⟨b8w, 0, none⟩ (.int .u64 (e0 z11))).setCell ⟨b8w, 1, none⟩ (.int .u64 (e1 z11))).setCell ⟨b8w, 2, none⟩ (.int .u64 (e2 z11))).setCell ⟨b8w, 3, none⟩ (.int .u64 (e3 z11))) b8w z11) := var_set x1w169 b8w z11 O8w.out
          replace V7w : Hid (Var ((((x1w169.setCell ⟨b8w, 0, none⟩ (.int .u64 (e0 z11))).setCell ⟨b8w, 1, none⟩ (.int .u64 (e1 z11))).setCell ⟨b8w, 2, none⟩ (.int .u64 (e2 z11))).setCell ⟨b8w, 3, none⟩ (.int .u64 (e3 z11))) b7w z13) := var_other V7w.out (by omega) _ _ _ _
          replace O7w : Hid (Own ((((x1w169.setCell ⟨b8w, 0, none⟩ (.int .u64 (e0 z11))).setCell ⟨b8w, 1, none⟩ (.int .u64 (e1 z11))).setCell ⟨b8w, 2, none⟩ (.int .u64 (e2 z11))).setCell ⟨b8w, 3, none⟩ (.int .u64 (e3 z11))) b7w) := own_other O7w.out (by omega) _ _ _ _
          replace O8w : Hid (Own ((((x1w169.setCell ⟨b8w, 0, none⟩ (.int .u64 (e0 z11))).setCell ⟨b8w, 1, none⟩ (.int .u64 (e1 z11))).setCell ⟨b8w, 2, none⟩ (.int .u64 (e2 z11))).setCell ⟨b8w, 3, none⟩ (.int .u64 (e3 z11))) b8w) := own_set O8w.out _ _ _ _
          clear nc0 nc1 nc2 nc3 nf0 nf1 nf2 nf3
          generalize (((x1w169.setCell ⟨b8w, 0, none⟩ (.int .u64 (e0 z11))).setCell ⟨b8w, 1, none⟩ (.int .u64 (e1 z11))).setCell ⟨b8w, 2, none⟩ (.int .u64 (e2 z11))).setCell ⟨b8w, 3, none⟩ (.int .u64 (e3 z11)) = x1w170 at *
          refine wpAnyH_done (by kernel_rfl) ?_ _
          refine NoPanic.normal ?_
          go_wp2_with fail
          go_meet
          case rel => exact ⟨_, _, _, _, rfl, hz13, Hz13, V7w, hg7, O7w, rfl, hz11, Hz11, V8w, hg8, O8w, (by omega), hH⟩
      case c91w144 =>
        go_simp
        have hL7 : W0.heap.size ≤ x1w143.heap.size := hH.size
        have lt8_7 : b8w < x1w143.heap.size := O8w.out.lt
        refine hK.out _ _ (hH.trans (bel1 _ _)) (fun hH' => ?_)
        clear hK K hH
        have hH := hH'
        clear hH'
        try simp only [List.setIfInBounds_toArray, List.set]
        have O7w : Hid (Own (x1w143.alloc (.cells #[.int .u64 0, .int .u64 0, .int .u64 0, .int .u64 0] 28)) x1w143.heap.size) := own_new x1w143 _ _ _ _ _
        replace O8w : Hid (Own (x1w143.alloc (.cells #[.int .u64 0, .int .u64 0, .int .u64 0, .int .u64 0] 28)) b8w) := O8w.out.later (bel1 _ _)
        generalize x1w143.alloc (.cells #[.int .u64 0, .int .u64 0, .int .u64 0, .int .u64 0] 28) = x1w171 at *
        generalize x1w143.heap.size = b7w at *
        have hg7 : W0.heap.size ≤ b7w := hL7
        refine wpAnyH_ready (rs := [1]) (by kernel_rfl) (by simp) ?_
        refine AllReadyH.cons (o := ?o11w172) ?h11w172 (fun K hK => ?_) AllReadyH.nil
        case h11w172 => simp only [List.getElem?_toArray]; rfl
        go_simp
        refine (from_e a ha _).mono ?_
        rintro e y1w172 ⟨z11, rfl, hz11, Hz11, hb1w172⟩
        refine hK.out _ _ (hH.trans hb1w172) (fun hH' => ?_)
        clear hK K hH
        have hH := hH'
        clear hH'
        try simp only [List.setIfInBounds_toArray, List.set]
        replace O8w : Hid (Own y1w172 b8w) := O8w.out.later hb1w172
        replace O7w : Hid (Own y1w172 b7w) := O7w.out.later hb1w172
        clear hb1w172
        refine wpAnyH_ready (rs := [3]) (by kernel_rfl) (by simp) ?_
        refine AllReadyH.cons (o := ?o31w173) ?h31w173 (fun K hK => ?_) AllReadyH.nil
        case h31w173 => simp only [List.getElem?_toArray]; rfl
        go_simp
        refine (from_e b hb _).mono ?_
        rintro e y1w173 ⟨z13, rfl, hz13, Hz13, hb1w173⟩
        refine hK.out _ _ (hH.trans hb1w173) (fun hH' => ?_)
        clear hK K hH
        have hH := hH'
        clear hH'
        try simp only [List.setIfInBounds_toArray, List.set]
        replace O8w : Hid (Own y1w173 b8w) := O8w.out.later hb1w173
        replace O7w : Hid (Own y1w173 b7w) := O7w.out.later hb1w173
        clear hb1w173
        refine wpAnyH_ready (rs := [5]) (by kernel_rfl) (by simp) ?_
        refine AllReadyH.cons (o := ?o51w174) ?h51w174 (fun K hK => ?_) AllReadyH.nil
        case h51w174 => simp only [List.getElem?_toArray]; rfl
        go_simp
        refine (swap_odd z11 z13 n hz11 hz13 hn hp.out _).mono ?_
        rintro e y1w174 ⟨rfl, hb1w174⟩
        refine hK.out _ _ (hH.trans hb1w174) (fun hH' => ?_)
        clear hK K hH
        have hH := hH'
        clear hH'
        try simp only [List.setIfInBounds_toArray, List.set]
        replace O8w : Hid (Own y1w174 b8w) := O8w.out.later hb1w174
        replace O7w : Hid (Own y1w174 b7w) := O7w.out.later hb1w174
        clear hb1w174
        refine wpAnyH_take (i := 6) (oi := ?o61w175) (v := ?v61w175) ?h61w175 (by kernel_rfl) ?f61w175 ?r61w175 (fun _ _ _ h => h) (Or.inl ⟨?w61w175, ?y61w175⟩) (by assumption) ?t61w175
        case h61w175 => simp only [List.getElem?_toArray]; rfl
        case f61w175 => kernel_rfl
        case r61w175 => kernel_rfl
        case w61w175 => rfl
        case y61w175 => (intro u hu; (go_simp) <;> with_reducible rfl)
        try simp only [Act.put, List.setIfInBounds_toArray, List.set_cons_zero, List.set_cons_succ]
        refine wpAnyH_take (i := 7) (oi := ?o71w176) (v := ?v71w176) ?h71w176 (by kernel_rfl) ?f71w176 ?r71w176 (fun _ _ _ h => h) (Or.inl ⟨?w71w176, ?y71w176⟩) (by assumption) ?t71w176
        case h71w176 => simp only [List.getElem?_toArray]; rfl
        case f71w176 => kernel_rfl
        case r71w176 => kernel_rfl
        case w71w176 => rfl
        case y71w176 => (intro u hu; (go_simp) <;> with_reducible rfl)
        try simp only [Act.put, List.setIfInBounds_toArray, List.set_cons_zero, List.set_cons_succ]
        refine wpAnyH_take (i := 8) (oi := ?o81w177) (v := ?v81w177) ?h81w177 (by kernel_rfl) ?f81w177 ?r81w177 (fun _ _ _ h => h) (Or.inl ⟨?w81w177, ?y81w177⟩) (by assumption) ?t81w177
        case h81w177 => simp only [List.getElem?_toArray]; rfl
        case f81w177 => kernel_rfl
        case r81w177 => kernel_rfl
        case w81w177 => rfl
        case y81w177 => (intro u hu; (go_simp) <;> with_reducible rfl)
        try simp only [Act.put, List.setIfInBounds_toArray, List.set_cons_zero, List.set_cons_succ]
        obtain ⟨⟨_, nc0⟩, ⟨_, nc1⟩, ⟨_, nc2⟩, ⟨_, nc3⟩, nf0, nf1, nf2, nf3⟩ := O7w.out
        refine wpAnyH_ready (rs := [11]) (by kernel_rfl) (by simp) ?_
        refine AllReadyH.cons (o := ?o111w178) ?h111w178 (fun K hK => ?_) AllReadyH.nil
        case h111w178 => simp only [List.getElem?_toArray]; rfl
        go_simp
        refine hK.out _ _ (hH.set4 _ (by omega) _ _ _ _) (fun hH' => ?_)
        clear hK K hH
        have hH := hH'
        clear hH'
        try simp only [List.setIfInBounds_toArray, List.set]
        have V7w : Hid (Var ((((y1w174.setCell ⟨b7w, 0, none⟩ (.int .u64 (e0 z13))).setCell ⟨b7w, 1, none⟩ (.int .u64 (e1 z13))).setCell ⟨b7w, 2, none⟩ (.int .u64 (e2 z13))).setCell ⟨b7w, 3, none⟩ (.int .u64 (e3 z13))) b7w z13) := var_set y1w174 b7w z13 O7w.out
        replace O8w : Hid (Own ((((y1w174.setCell ⟨b7w, 0, none⟩ (.int .u64 (e0 z13))).setCell ⟨b7w, 1, none⟩ (.int .u64 (e1 z13))).setCell ⟨b7w, 2, none⟩ (.int .u64 (e2 z13))).setCell ⟨b7w, 3, none⟩ (.int .u64 (e3 z13))) b8w) := own_other O8w.out (by omega) _ _ _ _
        replace O7w : Hid (Own ((((y1w174.setCell ⟨b7w, 0, none⟩ (.int .u64 (e0 z13))).setCell ⟨b7w, 1, none⟩ (.int .u64 (e1 z13))).setCell ⟨b7w, 2, none⟩ (.int .u64 (e2 z13))).setCell ⟨b7w, 3, none⟩ (.int .u64 (e3 z13))) b7w) := own_set O7w.out _ _ _ _
        clear nc0 nc1 nc2 nc3 nf0 nf1 nf2 nf3
        generalize (((y1w174.setCell ⟨b7w, 0, none⟩ (.int .u64 (e0 z13))).setCell ⟨b7w, 1, none⟩ (.int .u64 (e1 z13))).setCell ⟨b7w, 2, none⟩ (.int .u64 (e2 z13))).setCell ⟨b7w, 3, none⟩ (.int .u64 (e3 z13)) = x1w178 at *
        obtain ⟨⟨_, nc0⟩, ⟨_, nc1⟩, ⟨_, nc2⟩, ⟨_, nc3⟩, nf0, nf1, nf2, nf3⟩ := O8w.out
        refine wpAnyH_ready (rs := [12]) (by kernel_rfl) (by simp) ?_
        refine AllReadyH.cons (o := ?o121w179) ?h121w179 (fun K hK => ?_) AllReadyH.nil
        case h121w179 => simp only [List.getElem?_toArray]; rfl
        go_simp
        refine hK.out _ _ (hH.set4 _ (by omega) _ _ _ _) (fun hH' => ?_)
        clear hK K hH
        have hH := hH'
        clear hH'
        try simp only [List.setIfInBounds_toArray, List.set]
        have V8w : Hid (Var ((((x1w178.setCell ⟨b8w, 0, none⟩ (.int .u64 (e0 z11))).setCell ⟨b8w, 1, none⟩ (.int .u64 (e1 z11))).setCell ⟨b8w, 2, none⟩ (.int .u64 (e2 z11))).setCell ⟨b8w, 3, none⟩ (.int .u64 (e3 z11))) b8w z11) := var_set x1w178 b8w z11 O8w.out
        replace V7w : Hid (Var ((((x1w178.setCell ⟨b8w, 0, none⟩ (.int .u64 (e0 z11))).setCell ⟨b8w, 1, none⟩ (.int .u64 (e1 z11))).setCell ⟨b8w, 2, none⟩ (.int .u64 (e2 z11))).setCell ⟨b8w, 3, none⟩ (.int .u64 (e3 z11))) b7w z13) := var_other V7w.out (by omega) _ _ _ _
        replace O7w : Hid (Own ((((x1w178.setCell ⟨b8w, 0, none⟩ (.int .u64 (e0 z11))).setCell ⟨b8w, 1, none⟩ (.int .u64 (e1 z11))).setCell ⟨b8w, 2, none⟩ (.int .u64 (e2 z11))).setCell ⟨b8w, 3, none⟩ (.int .u64 (e3 z11))) b7w) := own_other O7w.out (by omega) _ _ _ _
        replace O8w : Hid (Own ((((x1w178.setCell ⟨b8w, 0, none⟩ (.int .u64 (e0 z11))).setCell ⟨b8w, 1, none⟩ (.int .u64 (e1 z11))).setCell ⟨b8w, 2, none⟩ (.int .u64 (e2 z11))).setCell ⟨b8w, 3, none⟩ (.int .u64 (e3 z11))) b8w) := own_set O8w.out _ _ _ _
        clear nc0 nc1 nc2 nc3 nf0 nf1 nf2 nf3
        generalize (((x1w178.setCell ⟨b8w, 0, none⟩ (.int .u64 (e0 z11))).setCell ⟨b8w, 1, none⟩ (.int .u64 (e1 z11))).setCell ⟨b8w, 2, none⟩ (.int .u64 (e2 z11))).setCell ⟨b8w, 3, none⟩ (.int .u64 (e3 z11)) = x1w179 at *
        refine wpAnyH_done (by kernel_rfl) ?_ _
        refine NoPanic.normal ?_
        go_wp2_with fail
        go_meet
        case rel => exact ⟨_, _, _, _, rfl, hz13, Hz13, V7w, hg7, O7w, rfl, hz11, Hz11, V8w, hg8, O8w, (by omega), hH⟩
  obtain ⟨b7, v7, b8, v8, rfl, hv7, Hv7, V7, hge7, O7, rfl, hv8, Hv8, V8, hge8, O8, hne7_8, hX⟩ := hcut
  generalize wc = W7 at *
  replace A3 : Hid (Arr W7 (w.heap.size) (List.map (Value.int .u8) a)) := A3.out.later hX.out
  replace A4 : Hid (Arr W7 q1 (List.map (Value.int .u8) b)) := A4.out.later hX.out
  replace HB : Hid (Below w.heap.size w W7) := HB.out.trans (Below.mono hX.out HB.out.size)
  clear hX
  go_upto_region 2 with fail
  have hp' : n % 2 = 1 := hp.out
  go_upto_region 3 with fail
  clear hp'
  obtain ⟨s0, s1, s2, s3⟩ := V7.out
  obtain ⟨r0, r1, r2, r3⟩ := V8.out
  obtain ⟨_, _, _, _, f0, f1, f2, f3⟩ := O7.out
  obtain ⟨_, _, _, _, g0, g1, g2, g3⟩ := O8.out
  go_upto_region 4 with fail
  clear s0 s1 s2 s3 r0 r1 r2 r3 f0 f1 f2 f3 g0 g1 g2 g3
  have V7' : Hid (Var ((((((((W7.setCell ⟨b7, 0, none⟩ (.int .u64 (e0 v8))).setCell ⟨b7, 1, none⟩ (.int .u64 (e1 v8))).setCell ⟨b7, 2, none⟩ (.int .u64 (e2 v8))).setCell ⟨b7, 3, none⟩ (.int .u64 (e3 v8))).setCell ⟨b8, 0, none⟩ (.int .u64 (e0 v7))).setCell ⟨b8, 1, none⟩ (.int .u64 (e1 v7))).setCell ⟨b8, 2, none⟩ (.int .u64 (e2 v7))).setCell ⟨b8, 3, none⟩ (.int .u64 (e3 v7))) b7 v8) := var_other (var_set W7 b7 v8 O7.out) hne7_8 _ _ _ _
  have V8' : Hid (Var ((((((((W7.setCell ⟨b7, 0, none⟩ (.int .u64 (e0 v8))).setCell ⟨b7, 1, none⟩ (.int .u64 (e1 v8))).setCell ⟨b7, 2, none⟩ (.int .u64 (e2 v8))).setCell ⟨b7, 3, none⟩ (.int .u64 (e3 v8))).setCell ⟨b8, 0, none⟩ (.int .u64 (e0 v7))).setCell ⟨b8, 1, none⟩ (.int .u64 (e1 v7))).setCell ⟨b8, 2, none⟩ (.int .u64 (e2 v7))).setCell ⟨b8, 3, none⟩ (.int .u64 (e3 v7))) b8 v7) := var_set ((((W7.setCell ⟨b7, 0, none⟩ (.int .u64 (e0 v8))).setCell ⟨b7, 1, none⟩ (.int .u64 (e1 v8))).setCell ⟨b7, 2, none⟩ (.int .u64 (e2 v8))).setCell ⟨b7, 3, none⟩ (.int .u64 (e3 v8))) b8 v7 (own_other O8.out (fun e => hne7_8 e.symm) _ _ _ _)
  have A3' : Hid (Arr ((((((((W7.setCell ⟨b7, 0, none⟩ (.int .u64 (e0 v8))).setCell ⟨b7, 1, none⟩ (.int .u64 (e1 v8))).setCell ⟨b7, 2, none⟩ (.int .u64 (e2 v8))).setCell ⟨b7, 3, none⟩ (.int .u64 (e3 v8))).setCell ⟨b8, 0, none⟩ (.int .u64 (e0 v7))).setCell ⟨b8, 1, none⟩ (.int .u64 (e1 v7))).setCell ⟨b8, 2, none⟩ (.int .u64 (e2 v7))).setCell ⟨b8, 3, none⟩ (.int .u64 (e3 v7))) (w.heap.size) (List.map (Value.int .u8) a)) := arr_other (arr_other A3.out (fun e => by omega) _ _ _ _) (fun e => by omega) _ _ _ _
  have A4' : Hid (Arr ((((((((W7.setCell ⟨b7, 0, none⟩ (.int .u64 (e0 v8))).setCell ⟨b7, 1, none⟩ (.int .u64 (e1 v8))).setCell ⟨b7, 2, none⟩ (.int .u64 (e2 v8))).setCell ⟨b7, 3, none⟩ (.int .u64 (e3 v8))).setCell ⟨b8, 0, none⟩ (.int .u64 (e0 v7))).setCell ⟨b8, 1, none⟩ (.int .u64 (e1 v7))).setCell ⟨b8, 2, none⟩ (.int .u64 (e2 v7))).setCell ⟨b8, 3, none⟩ (.int .u64 (e3 v7))) q1 (List.map (Value.int .u8) b)) := arr_other (arr_other A4.out (fun e => by omega) _ _ _ _) (fun e => by omega) _ _ _ _
  have HB' : Hid (Below w.heap.size w ((((((((W7.setCell ⟨b7, 0, none⟩ (.int .u64 (e0 v8))).setCell ⟨b7, 1, none⟩ (.int .u64 (e1 v8))).setCell ⟨b7, 2, none⟩ (.int .u64 (e2 v8))).setCell ⟨b7, 3, none⟩ (.int .u64 (e3 v8))).setCell ⟨b8, 0, none⟩ (.int .u64 (e0 v7))).setCell ⟨b8, 1, none⟩ (.int .u64 (e1 v7))).setCell ⟨b8, 2, none⟩ (.int .u64 (e2 v7))).setCell ⟨b8, 3, none⟩ (.int .u64 (e3 v7)))) := below_set4 (below_set4 HB.out b7 (by omega) _ _ _ _) b8 (by omega) _ _ _ _
  clear V7 V8 A3 A4 HB O7 O8
  generalize (((((((W7.setCell ⟨b7, 0, none⟩ (.int .u64 (e0 v8))).setCell ⟨b7, 1, none⟩ (.int .u64 (e1 v8))).setCell ⟨b7, 2, none⟩ (.int .u64 (e2 v8))).setCell ⟨b7, 3, none⟩ (.int .u64 (e3 v8))).setCell ⟨b8, 0, none⟩ (.int .u64 (e0 v7))).setCell ⟨b8, 1, none⟩ (.int .u64 (e1 v7))).setCell ⟨b8, 2, none⟩ (.int .u64 (e2 v7))).setCell ⟨b8, 3, none⟩ (.int .u64 (e3 v7)) = Y0 at *
  have V7 := V7'
  have V8 := V8'
  have A3 := A3'
  have A4 := A4'
  have HB := HB'
  clear V7' V8' A3' A4' HB'
  obtain ⟨V7c0, V7c1, V7c2, V7c3⟩ := V7.out
  have V7u0 : ∀ u, Ext Y0 u → u.cell? ⟨b7, 0, none⟩ = some (.int .u64 (e0 v8)) := fun u hu => hu.cell V7c0
  have V7u1 : ∀ u, Ext Y0 u → u.cell? ⟨b7, 1, none⟩ = some (.int .u64 (e1 v8)) := fun u hu => hu.cell V7c1
  have V7u2 : ∀ u, Ext Y0 u → u.cell? ⟨b7, 2, none⟩ = some (.int .u64 (e2 v8)) := fun u hu => hu.cell V7c2
  have V7u3 : ∀ u, Ext Y0 u → u.cell? ⟨b7, 3, none⟩ = some (.int .u64 (e3 v8)) := fun u hu => hu.cell V7c3
  clear V7c0 V7c1 V7c2 V7c3
  obtain ⟨V8c0, V8c1, V8c2, V8c3⟩ := V8.out
  have V8u0 : ∀ u, Ext Y0 u → u.cell? ⟨b8, 0, none⟩ = some (.int .u64 (e0 v7)) := fun u hu => hu.cell V8c0
  have V8u1 : ∀ u, Ext Y0 u → u.cell? ⟨b8, 1, none⟩ = some (.int .u64 (e1 v7)) := fun u hu => hu.cell V8c1
  have V8u2 : ∀ u, Ext Y0 u → u.cell? ⟨b8, 2, none⟩ = some (.int .u64 (e2 v7)) := fun u hu => hu.cell V8c2
  have V8u3 : ∀ u, Ext Y0 u → u.cell? ⟨b8, 3, none⟩ = some (.int .u64 (e3 v7)) := fun u hu => hu.cell V8c3
  clear V8c0 V8c1 V8c2 V8c3
  refine wp_region_noPanic ?_
  refine wp_region_held_drew (S := Ext Y0) (by kernel_rfl) (Ext.refl _).drew (fun hH => ?_)
  change wpAnyH _ _ _ _ _ _ #[false, false, false, false, false, false, false, false, false, false, false, false, false, false, false, false, false, false, false, false, false, false] _ _
  refine wpAnyH_ready (rs := [0]) (by kernel_rfl) (by simp) ?_
  refine AllReadyH.cons (o := ?o0r4) ?h0r4 (fun K hK => ?_) AllReadyH.nil
  case h0r4 => simp only [List.getElem?_toArray]; rfl
  go_simp
  refine (known_any _).mono ?_
  rintro e c4_0 ⟨rfl, hb4_0⟩
  refine hK.out _ _ (hH.trans hb4_0) (fun hH' => ?_)
  clear hK K hH
  have hH := hH'
  clear hH'
  try simp only [List.setIfInBounds_toArray, List.set]
  clear hb4_0
  refine wpAnyH_take (i := 1) (oi := ?o1r4) (v := ?v1r4) ?h1r4 (by kernel_rfl) ?f1r4 ?r1r4 (fun _ _ _ h => h) (Or.inl ⟨?w1r4, ?y1r4⟩) (by assumption) ?t1r4
  case h1r4 => simp only [List.getElem?_toArray]; rfl
  case f1r4 => kernel_rfl
  case r1r4 => kernel_rfl
  case w1r4 => rfl
  case y1r4 => (intro u hu; (go_simp) <;> with_reducible rfl)
  try simp only [Act.put, List.setIfInBounds_toArray, List.set_cons_zero, List.set_cons_succ]
  refine wpAnyH_take (i := 2) (oi := ?o2r4) (v := ?v2r4) ?h2r4 (by kernel_rfl) ?f2r4 ?r2r4 (fun _ _ _ h => h) (Or.inl ⟨?w2r4, ?y2r4⟩) (by assumption) ?t2r4
  case h2r4 => simp only [List.getElem?_toArray]; rfl
  case f2r4 => kernel_rfl
  case r2r4 => kernel_rfl
  case w2r4 => rfl
  case y2r4 => (intro u hu; (go_simp) <;> with_reducible rfl)
  try simp only [Act.put, List.setIfInBounds_toArray, List.set_cons_zero, List.set_cons_succ]
  refine wpAnyH_take (i := 3) (oi := ?o3r4) (v := .agg (List.map (Value.int .u8) a).toArray) ?h3r4 (by kernel_rfl) ?f3r4 ?r3r4 (fun _ _ _ h => h) ?y3r4 (by assumption) ?t3r4
  case h3r4 => simp only [List.getElem?_toArray]; rfl
  case f3r4 => kernel_rfl
  case r3r4 => kernel_rfl
  case y3r4 => exact yieldsIf_load_mid (by rfl) 22 (.tmp 3) rfl (w.heap.size) 0 rfl (List.map (Value.int .u8) a) _ (fun u hu => range_later hu A3.out.rng) Try.underlying22 rfl (by_cells ha).2.2
  try simp only [Act.put, List.setIfInBounds_toArray, List.set_cons_zero, List.set_cons_succ]
  refine wpAnyH_ready (rs := [4]) (by kernel_rfl) (by simp) ?_
  refine AllReadyH.cons (o := ?o4r4) ?h4r4 (fun K hK => ?_) AllReadyH.nil
  case h4r4 => simp only [List.getElem?_toArray]; rfl
  go_simp
  refine (from_e a ha _).mono ?_
  rintro e c4_4 ⟨z27, rfl, hz27, Hz27, hb4_4⟩
  refine hK.out _ _ (hH.trans hb4_4) (fun hH' => ?_)
  clear hK K hH
  have hH := hH'
  clear hH'
  try simp only [List.setIfInBounds_toArray, List.set]
  clear hb4_4
  refine wpAnyH_ready (rs := [5]) (by kernel_rfl) (by simp) ?_
  refine AllReadyH.cons (o := ?o5r4) ?h5r4 (fun K hK => ?_) AllReadyH.nil
  case h5r4 => simp only [List.getElem?_toArray]; rfl
  go_simp
  refine (equal_e v8 z27 hv8 hz27 _).mono ?_
  rintro e c4_5 ⟨rfl, hb4_5⟩
  rw [show same v8 z27 = true from same_t (by rw [Hv8.out, Hz27.out])]
  refine hK.out _ _ (hH.trans hb4_5) (fun hH' => ?_)
  clear hK K hH
  have hH := hH'
  clear hH'
  try simp only [List.setIfInBounds_toArray, List.set]
  clear hb4_5
  refine wpAnyH_take (i := 6) (oi := ?o6r4) (v := ?v6r4) ?h6r4 (by kernel_rfl) ?f6r4 ?r6r4 (fun _ _ _ h => h) (Or.inl ⟨?w6r4, ?y6r4⟩) (by assumption) ?t6r4
  case h6r4 => simp only [List.getElem?_toArray]; rfl
  case f6r4 => kernel_rfl
  case r6r4 => kernel_rfl
  case w6r4 => rfl
  case y6r4 => (intro u hu; (go_simp) <;> with_reducible rfl)
  try simp only [Act.put, List.setIfInBounds_toArray, List.set_cons_zero, List.set_cons_succ]
  refine wpAnyH_take (i := 7) (oi := ?o7r4) (v := ?v7r4) ?h7r4 (by kernel_rfl) ?f7r4 ?r7r4 (fun _ _ _ h => h) (Or.inl ⟨?w7r4, ?y7r4⟩) (by assumption) ?t7r4
  case h7r4 => simp only [List.getElem?_toArray]; rfl
  case f7r4 => kernel_rfl
  case r7r4 => kernel_rfl
  case w7r4 => rfl
  case y7r4 => (intro u hu; (go_simp) <;> with_reducible rfl)
  try simp only [Act.put, List.setIfInBounds_toArray, List.set_cons_zero, List.set_cons_succ]
  refine wpAnyH_take (i := 8) (oi := ?o8r4) (v := ?v8r4) ?h8r4 (by kernel_rfl) ?f8r4 ?r8r4 (fun _ _ _ h => h) (Or.inl ⟨?w8r4, ?y8r4⟩) (by assumption) ?t8r4
  case h8r4 => simp only [List.getElem?_toArray]; rfl
  case f8r4 => kernel_rfl
  case r8r4 => kernel_rfl
  case w8r4 => rfl
  case y8r4 => (intro u hu; (go_simp) <;> with_reducible rfl)
  try simp only [Act.put, List.setIfInBounds_toArray, List.set_cons_zero, List.set_cons_succ]
  refine wpAnyH_take (i := 9) (oi := ?o9r4) (v := .agg (List.map (Value.int .u8) b).toArray) ?h9r4 (by kernel_rfl) ?f9r4 ?r9r4 (fun _ _ _ h => h) ?y9r4 (by assumption) ?t9r4
  case h9r4 => simp only [List.getElem?_toArray]; rfl
  case f9r4 => kernel_rfl
  case r9r4 => kernel_rfl
  case y9r4 => exact yieldsIf_load_mid (by rfl) 22 (.tmp 4) rfl q1 0 rfl (List.map (Value.int .u8) b) _ (fun u hu => range_later hu A4.out.rng) Try.underlying22 rfl (by_cells hb).2.2
  try simp only [Act.put, List.setIfInBounds_toArray, List.set_cons_zero, List.set_cons_succ]
  refine wpAnyH_ready (rs := [10]) (by kernel_rfl) (by simp) ?_
  refine AllReadyH.cons (o := ?o10r4) ?h10r4 (fun K hK => ?_) AllReadyH.nil
  case h10r4 => simp only [List.getElem?_toArray]; rfl
  go_simp
  refine (from_e b hb _).mono ?_
  rintro e c4_10 ⟨z33, rfl, hz33, Hz33, hb4_10⟩
  refine hK.out _ _ (hH.trans hb4_10) (fun hH' => ?_)
  clear hK K hH
  have hH := hH'
  clear hH'
  try simp only [List.setIfInBounds_toArray, List.set]
  clear hb4_10
  refine wpAnyH_ready (rs := [11]) (by kernel_rfl) (by simp) ?_
  refine AllReadyH.cons (o := ?o11r4) ?h11r4 (fun K hK => ?_) AllReadyH.nil
  case h11r4 => simp only [List.getElem?_toArray]; rfl
  go_simp
  refine (equal_e v7 z33 hv7 hz33 _).mono ?_
  rintro e c4_11 ⟨rfl, hb4_11⟩
  rw [show same v7 z33 = true from same_t (by rw [Hv7.out, Hz33.out])]
  refine hK.out _ _ (hH.trans hb4_11) (fun hH' => ?_)
  clear hK K hH
  have hH := hH'
  clear hH'
  try simp only [List.setIfInBounds_toArray, List.set]
  clear hb4_11
  refine wpAnyH_take (i := 12) (oi := ?o12r4) (v := ?v12r4) ?h12r4 (by kernel_rfl) ?f12r4 ?r12r4 (fun _ _ _ h => h) (Or.inl ⟨?w12r4, ?y12r4⟩) (by assumption) ?t12r4
  case h12r4 => simp only [List.getElem?_toArray]; rfl
  case f12r4 => kernel_rfl
  case r12r4 => kernel_rfl
  case w12r4 => rfl
  case y12r4 => (intro u hu; (go_simp) <;> with_reducible rfl)
  try simp only [Act.put, List.setIfInBounds_toArray, List.set_cons_zero, List.set_cons_succ]
  refine wpAnyH_take (i := 13) (oi := ?o13r4) (v := ?v13r4) ?h13r4 (by kernel_rfl) ?f13r4 ?r13r4 (fun _ _ _ h => h) (Or.inl ⟨?w13r4, ?y13r4⟩) (by assumption) ?t13r4
  case h13r4 => simp only [List.getElem?_toArray]; rfl
  case f13r4 => kernel_rfl
  case r13r4 => kernel_rfl
  case w13r4 => rfl
  case y13r4 => (intro u hu; (go_simp) <;> with_reducible rfl)
  try simp only [Act.put, List.setIfInBounds_toArray, List.set_cons_zero, List.set_cons_succ]
  refine wpAnyH_take (i := 14) (oi := ?o14r4) (v := ?v14r4) ?h14r4 (by kernel_rfl) ?f14r4 ?r14r4 (fun _ _ _ h => h) (Or.inl ⟨?w14r4, ?y14r4⟩) (by assumption) ?t14r4
  case h14r4 => simp only [List.getElem?_toArray]; rfl
  case f14r4 => kernel_rfl
  case r14r4 => kernel_rfl
  case w14r4 => rfl
  case y14r4 => (intro u hu; (go_simp) <;> with_reducible rfl)
  try simp only [Act.put, List.setIfInBounds_toArray, List.set_cons_zero, List.set_cons_succ]
  refine wpAnyH_take (i := 16) (oi := ?o16r4) (v := .agg (List.map (Value.int .u8) a).toArray) ?h16r4 (by kernel_rfl) ?f16r4 ?r16r4 (fun _ _ _ h => h) ?y16r4 (by assumption) ?t16r4
  case h16r4 => simp only [List.getElem?_toArray]; rfl
  case f16r4 => kernel_rfl
  case r16r4 => kernel_rfl
  case y16r4 => exact yieldsIf_load_mid (by rfl) 22 (.tmp 3) rfl (w.heap.size) 0 rfl (List.map (Value.int .u8) a) _ (fun u hu => range_later hu A3.out.rng) Try.underlying22 rfl (by_cells ha).2.2
  try simp only [Act.put, List.setIfInBounds_toArray, List.set_cons_zero, List.set_cons_succ]
  refine wpAnyH_ready (rs := [15]) (by kernel_rfl) (by simp) ?_
  refine AllReadyH.cons (o := ?o15r4) ?h15r4 (fun K hK => ?_) AllReadyH.nil
  case h15r4 => simp only [List.getElem?_toArray]; rfl
  go_simp
  refine (bytes_e v8 hv8 _).mono ?_
  rintro e c4_15 ⟨rfl, hb4_15⟩
  refine hK.out _ _ (hH.trans hb4_15) (fun hH' => ?_)
  clear hK K hH
  have hH := hH'
  clear hH'
  try simp only [List.setIfInBounds_toArray, List.set]
  clear hb4_15
  refine wpAnyH_ready (rs := [17]) (by kernel_rfl) (by simp) ?_
  refine AllReadyH.cons (o := ?o17r4) ?h17r4 (fun K hK => ?_) AllReadyH.nil
  case h17r4 => simp only [List.getElem?_toArray]; rfl
  go_simp
  refine (from_e a ha _).mono ?_
  rintro e c4_17 ⟨z40, rfl, hz40, Hz40, hb4_17⟩
  refine hK.out _ _ (hH.trans hb4_17) (fun hH' => ?_)
  clear hK K hH
  have hH := hH'
  clear hH'
  try simp only [List.setIfInBounds_toArray, List.set]
  clear hb4_17
  refine wpAnyH_ready (rs := [18]) (by kernel_rfl) (by simp) ?_
  refine AllReadyH.cons (o := ?o18r4) ?h18r4 (fun K hK => ?_) AllReadyH.nil
  case h18r4 => simp only [List.getElem?_toArray]; rfl
  go_simp
  refine (bytes_e z40 hz40 _).mono ?_
  rintro e c4_18 ⟨rfl, hb4_18⟩
  refine hK.out _ _ (hH.trans hb4_18) (fun hH' => ?_)
  clear hK K hH
  have hH := hH'
  clear hH'
  try simp only [List.setIfInBounds_toArray, List.set]
  clear hb4_18
  have hq42 : ∀ u, Sem.run Try.prog (binOp .eql 22 (.agg (List.map (Value.int .u8) (lay 32 v8)).toArray) (.agg (List.map (Value.int .u8) (lay 32 z40)).toArray)) u = .ok (.bool true) u := fun u => eql_same _ _ (lay_by _) (lay_by _) (by rw [Hv8.out, Hz40.out]) u
  refine wpAnyH_take (i := 19) (oi := ?o19r4) (v := ?v19r4) ?h19r4 (by kernel_rfl) ?f19r4 ?r19r4 (fun _ _ _ h => h) (Or.inl ⟨?w19r4, ?y19r4⟩) (by assumption) ?t19r4
  case h19r4 => simp only [List.getElem?_toArray]; rfl
  case f19r4 => kernel_rfl
  case r19r4 => kernel_rfl
  case w19r4 => rfl
  case y19r4 => (intro u hu; (go_simp) <;> with_reducible rfl)
  try simp only [Act.put, List.setIfInBounds_toArray, List.set_cons_zero, List.set_cons_succ]
  refine wpAnyH_take (i := 20) (oi := ?o20r4) (v := ?v20r4) ?h20r4 (by kernel_rfl) ?f20r4 ?r20r4 (fun _ _ _ h => h) (Or.inl ⟨?w20r4, ?y20r4⟩) (by assumption) ?t20r4
  case h20r4 => simp only [List.getElem?_toArray]; rfl
  case f20r4 => kernel_rfl
  case r20r4 => kernel_rfl
  case w20r4 => rfl
  case y20r4 => (intro u hu; (go_simp) <;> with_reducible rfl)
  try simp only [Act.put, List.setIfInBounds_toArray, List.set_cons_zero, List.set_cons_succ]
  refine wpAnyH_take (i := 21) (oi := ?o21r4) (v := ?v21r4) ?h21r4 (by kernel_rfl) ?f21r4 ?r21r4 (fun _ _ _ h => h) (Or.inl ⟨?w21r4, ?y21r4⟩) (by assumption) ?t21r4
  case h21r4 => simp only [List.getElem?_toArray]; rfl
  case f21r4 => kernel_rfl
  case r21r4 => kernel_rfl
  case w21r4 => rfl
  case y21r4 => (intro u hu; (go_simp) <;> with_reducible rfl)
  try simp only [Act.put, List.setIfInBounds_toArray, List.set_cons_zero, List.set_cons_succ]
  refine wpAnyH_done (by kernel_rfl) ?_ _
  refine NoPanic.normal ?_
  go_wp2
  go_ret
  exact ⟨rfl, HB.out.trans (Below.mono hH HB.out.size)⟩
end Go.Proofs.Ytgnfbnjhmiggbaa
