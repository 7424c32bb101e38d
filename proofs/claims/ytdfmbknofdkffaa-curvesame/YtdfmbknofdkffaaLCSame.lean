/-
  The walk of CurveSame: true for whatever is given. No statement of the seat is proved here.
-/
import Derived.Test.YtdfmbknofdkffaaCKnw
namespace Go.Proofs.Ytdfmbknofdkffaa
open Go.RowKit

set_option maxHeartbeats 8000000 in
theorem curveSame_walk (k l : List Int) (hk : By k) (hl : By l) (w : World) :
    Calls Try.prog 4 #[(.agg (List.map (Value.int .u8) k).toArray), (.agg (List.map (Value.int .u8) l).toArray)] w fun e w' => e = .returned (.bool true) ∧ Below w.heap.size w w' := by
  go_enter Try.func4, Try.ntmps4
  go_upto_region 1 with fail
  have HB : Hid (Below w.heap.size w ((w.alloc (.cells (List.map (Value.int .u8) k).toArray 22)).alloc (.cells (List.map (Value.int .u8) l).toArray 22))) := bel2 _ _ _
  have A2 : Hid (Arr ((w.alloc (.cells (List.map (Value.int .u8) k).toArray 22)).alloc (.cells (List.map (Value.int .u8) l).toArray 22)) (w.heap.size) (List.map (Value.int .u8) k)) := by
    have := (arr_box w k hk).later (bel1 _ (.cells (List.map (Value.int .u8) l).toArray 22))
    simpa [Hid] using this
  have A3 : Hid (Arr ((w.alloc (.cells (List.map (Value.int .u8) k).toArray 22)).alloc (.cells (List.map (Value.int .u8) l).toArray 22)) (w.heap.size + 1) (List.map (Value.int .u8) l)) := by
    have := arr_box (w.alloc (.cells (List.map (Value.int .u8) k).toArray 22)) l hl
    simpa [Hid] using this
  generalize (w.alloc (.cells (List.map (Value.int .u8) k).toArray 22)).alloc (.cells (List.map (Value.int .u8) l).toArray 22) = W0 at *
  generalize w.heap.size + 1 = q1 at *
  obtain ⟨hlen0, hone0, hi0⟩ := by_cells hl
  have hth := there_new W0 32 #[.int .u8 0, .int .u8 0, .int .u8 0, .int .u8 0, .int .u8 0, .int .u8 0, .int .u8 0, .int .u8 0, .int .u8 0, .int .u8 0, .int .u8 0, .int .u8 0, .int .u8 0, .int .u8 0, .int .u8 0, .int .u8 0, .int .u8 0, .int .u8 0, .int .u8 0, .int .u8 0, .int .u8 0, .int .u8 0, .int .u8 0, .int .u8 0, .int .u8 0, .int .u8 0, .int .u8 0, .int .u8 0, .int .u8 0, .int .u8 0, .int .u8 0, .int .u8 0] rfl 22
  have A5 : Hid (Arr ((W0.alloc (.cells #[.int .u8 0, .int .u8 0, .int .u8 0, .int .u8 0, .int .u8 0, .int .u8 0, .int .u8 0, .int .u8 0, .int .u8 0, .int .u8 0, .int .u8 0, .int .u8 0, .int .u8 0, .int .u8 0, .int .u8 0, .int .u8 0, .int .u8 0, .int .u8 0, .int .u8 0, .int .u8 0, .int .u8 0, .int .u8 0, .int .u8 0, .int .u8 0, .int .u8 0, .int .u8 0, .int .u8 0, .int .u8 0, .int .u8 0, .int .u8 0, .int .u8 0, .int .u8 0] 22)).setCells W0.heap.size 0 (List.map (Value.int .u8) l)) W0.heap.size (List.map (Value.int .u8) l)) := arr_new W0 #[.int .u8 0, .int .u8 0, .int .u8 0, .int .u8 0, .int .u8 0, .int .u8 0, .int .u8 0, .int .u8 0, .int .u8 0, .int .u8 0, .int .u8 0, .int .u8 0, .int .u8 0, .int .u8 0, .int .u8 0, .int .u8 0, .int .u8 0, .int .u8 0, .int .u8 0, .int .u8 0, .int .u8 0, .int .u8 0, .int .u8 0, .int .u8 0, .int .u8 0, .int .u8 0, .int .u8 0, .int .u8 0, .int .u8 0, .int .u8 0, .int .u8 0, .int .u8 0] rfl (List.map (Value.int .u8) l) hlen0
  have hX : Hid (Below W0.heap.size W0 ((W0.alloc (.cells #[.int .u8 0, .int .u8 0, .int .u8 0, .int .u8 0, .int .u8 0, .int .u8 0, .int .u8 0, .int .u8 0, .int .u8 0, .int .u8 0, .int .u8 0, .int .u8 0, .int .u8 0, .int .u8 0, .int .u8 0, .int .u8 0, .int .u8 0, .int .u8 0, .int .u8 0, .int .u8 0, .int .u8 0, .int .u8 0, .int .u8 0, .int .u8 0, .int .u8 0, .int .u8 0, .int .u8 0, .int .u8 0, .int .u8 0, .int .u8 0, .int .u8 0, .int .u8 0] 22)).setCells W0.heap.size 0 (List.map (Value.int .u8) l))) := bel_new W0 #[.int .u8 0, .int .u8 0, .int .u8 0, .int .u8 0, .int .u8 0, .int .u8 0, .int .u8 0, .int .u8 0, .int .u8 0, .int .u8 0, .int .u8 0, .int .u8 0, .int .u8 0, .int .u8 0, .int .u8 0, .int .u8 0, .int .u8 0, .int .u8 0, .int .u8 0, .int .u8 0, .int .u8 0, .int .u8 0, .int .u8 0, .int .u8 0, .int .u8 0, .int .u8 0, .int .u8 0, .int .u8 0, .int .u8 0, .int .u8 0, .int .u8 0, .int .u8 0] (List.map (Value.int .u8) l)
  have hge5 : w.heap.size ≤ W0.heap.size := HB.out.size
  have lt2 : w.heap.size < W0.heap.size := A2.out.lt
  have lt3 : q1 < W0.heap.size := A3.out.lt
  go_upto_region 2 with (first | (refine wpList_load_mid rfl 22 (.tmp 3) rfl q1 0 rfl (List.map (Value.int .u8) l) _ A3.out.rng Try.underlying22 rfl (by_cells hl).2.2 ?_) | (refine wpList_store_mid rfl 22 (.tmp 5) (.tmp 6) rfl (W0.heap.size) 0 (List.map (Value.int .u8) l).toArray rfl rfl (by simpa [hlen0] using hth) (by simpa using hi0) (all_oneCell_toArray hone0) ?_))
  clear hth hlen0 hone0 hi0
  generalize (W0.alloc (.cells #[.int .u8 0, .int .u8 0, .int .u8 0, .int .u8 0, .int .u8 0, .int .u8 0, .int .u8 0, .int .u8 0, .int .u8 0, .int .u8 0, .int .u8 0, .int .u8 0, .int .u8 0, .int .u8 0, .int .u8 0, .int .u8 0, .int .u8 0, .int .u8 0, .int .u8 0, .int .u8 0, .int .u8 0, .int .u8 0, .int .u8 0, .int .u8 0, .int .u8 0, .int .u8 0, .int .u8 0, .int .u8 0, .int .u8 0, .int .u8 0, .int .u8 0, .int .u8 0] 22)).setCells W0.heap.size 0 (List.map (Value.int .u8) l) = W5 at *
  replace A2 : Hid (Arr W5 (w.heap.size) (List.map (Value.int .u8) k)) := A2.out.later hX.out
  replace A3 : Hid (Arr W5 q1 (List.map (Value.int .u8) l)) := A3.out.later hX.out
  replace HB : Hid (Below w.heap.size w W5) := HB.out.trans (Below.mono hX.out HB.out.size)
  clear hX
  generalize W0.heap.size = b5 at *
  obtain ⟨x, m, y, hform, hm⟩ := thirty_two l hl.len
  have n31 : 31 < l.length := by rw [hl.len]; decide
  obtain ⟨c0, f0⟩ := arr_cell A5.out 31 n31 (by decide)
  have ey : l[31] = y := by
    have h1 : l[31]? = some y := by
      rw [hform, List.getElem?_cons_succ, List.getElem?_append_right (by omega), hm]
      rfl
    exact Option.some.inj ((List.getElem?_eq_getElem n31).symm.trans h1)
  have hy := hl.byt _ (List.getElem_mem n31)
  rw [ey] at c0 hy
  have hxr : bits .xor .u8 y 128 = (y + 128) % 256 := by
    obtain ⟨y0, y1⟩ := hy
    obtain ⟨n, hn⟩ := Int.eq_ofNat_of_zero_le y0
    subst hn
    have := xor128 ⟨n, by omega⟩
    simp only at this
    rw [this]
    omega
  have HV : Hid (l.set 31 ((y + 128) % 256) = x :: (m ++ [(y + 128) % 256])) := by
    unfold Hid
    rw [hform, List.set_cons_succ, List.set_append_right _ _ (by omega), hm]
    rfl
  have HY : Hid (By (l.set 31 ((y + 128) % 256))) := ⟨by rw [List.length_set, hl.len], fun z hz => by
    rcases List.mem_or_eq_of_mem_set hz with h | h
    · exact hl.byt z h
    · omega⟩
  have HNU : Hid (num (l.set 31 ((y + 128) % 256)) = num l) := by
    unfold Hid
    rw [HV.out, num_turn x y m hm, ← hform]
  clear HV hform hm ey
  generalize hyy : (y + 128) % 256 = yy at *
  go_upto_region 3 with fail
  clear hxr c0 f0 hyy
  have A5n : Hid (Arr (W5.setCell ⟨b5, 31, none⟩ (.int .u8 yy)) b5 (List.map (Value.int .u8) (l.set 31 yy))) := arr_set A5.out 31 n31 yy
  have A2n : Hid (Arr (W5.setCell ⟨b5, 31, none⟩ (.int .u8 yy)) (w.heap.size) (List.map (Value.int .u8) k)) := ⟨range_else A2.out.rng (by omega) _, there_set A2.out.all _ _ _⟩
  have A3n : Hid (Arr (W5.setCell ⟨b5, 31, none⟩ (.int .u8 yy)) q1 (List.map (Value.int .u8) l)) := ⟨range_else A3.out.rng (by omega) _, there_set A3.out.all _ _ _⟩
  have HBn : Hid (Below w.heap.size w (W5.setCell ⟨b5, 31, none⟩ (.int .u8 yy))) := HB.out.setCell (p := ⟨b5, 31, none⟩) hge5 _
  generalize W5.setCell ⟨b5, 31, none⟩ (.int .u8 yy) = W6 at *
  clear A2 A3 A5 HB
  have A2 := A2n
  have A3 := A3n
  have A5 := A5n
  have HB := HBn
  clear A2n A3n A5n HBn
  have hvl := HY.out
  generalize l.set 31 yy = vl at *
  refine wp_region_noPanic ?_
  refine wp_region_held_drew (S := Ext W6) (by kernel_rfl) (Ext.refl _).drew (fun hH => ?_)
  change wpAnyH _ _ _ _ _ _ #[false, false, false, false, false, false, false, false, false, false, false, false, false, false, false, false, false, false, false, false] _ _
  refine wpAnyH_ready (rs := [0]) (by kernel_rfl) (by simp) ?_
  refine AllReadyH.cons (o := ?o0r3) ?h0r3 (fun K hK => ?_) AllReadyH.nil
  case h0r3 => simp only [List.getElem?_toArray]; rfl
  go_simp
  refine (known_any _).mono ?_
  rintro e c3_0 ⟨rfl, hb3_0⟩
  refine hK.out _ _ (hH.trans hb3_0) (fun hH' => ?_)
  clear hK K hH
  have hH := hH'
  clear hH'
  try simp only [List.setIfInBounds_toArray, List.set]
  clear hb3_0
  refine wpAnyH_take (i := 1) (oi := ?o1r3) (v := ?v1r3) ?h1r3 (by kernel_rfl) ?f1r3 ?r1r3 (fun _ _ _ h => h) (Or.inl ⟨?w1r3, ?y1r3⟩) (by assumption) ?t1r3
  case h1r3 => simp only [List.getElem?_toArray]; rfl
  case f1r3 => kernel_rfl
  case r1r3 => kernel_rfl
  case w1r3 => rfl
  case y1r3 => (intro u hu; (go_simp) <;> with_reducible rfl)
  try simp only [Act.put, List.setIfInBounds_toArray, List.set_cons_zero, List.set_cons_succ]
  refine wpAnyH_take (i := 2) (oi := ?o2r3) (v := .agg (List.map (Value.int .u8) k).toArray) ?h2r3 (by kernel_rfl) ?f2r3 ?r2r3 (fun _ _ _ h => h) ?y2r3 (by assumption) ?t2r3
  case h2r3 => simp only [List.getElem?_toArray]; rfl
  case f2r3 => kernel_rfl
  case r2r3 => kernel_rfl
  case y2r3 => exact yieldsIf_load_mid (by rfl) 22 (.tmp 2) rfl (w.heap.size) 0 rfl (List.map (Value.int .u8) k) _ (fun u hu => range_later hu A2.out.rng) Try.underlying22 rfl (by_cells hk).2.2
  try simp only [Act.put, List.setIfInBounds_toArray, List.set_cons_zero, List.set_cons_succ]
  refine wpAnyH_take (i := 3) (oi := ?o3r3) (v := .agg (List.map (Value.int .u8) l).toArray) ?h3r3 (by kernel_rfl) ?f3r3 ?r3r3 (fun _ _ _ h => h) ?y3r3 (by assumption) ?t3r3
  case h3r3 => simp only [List.getElem?_toArray]; rfl
  case f3r3 => kernel_rfl
  case r3r3 => kernel_rfl
  case y3r3 => exact yieldsIf_load_mid (by rfl) 22 (.tmp 3) rfl q1 0 rfl (List.map (Value.int .u8) l) _ (fun u hu => range_later hu A3.out.rng) Try.underlying22 rfl (by_cells hl).2.2
  try simp only [Act.put, List.setIfInBounds_toArray, List.set_cons_zero, List.set_cons_succ]
  refine wpAnyH_take (i := 5) (oi := ?o5r3) (v := .agg (List.map (Value.int .u8) k).toArray) ?h5r3 (by kernel_rfl) ?f5r3 ?r5r3 (fun _ _ _ h => h) ?y5r3 (by assumption) ?t5r3
  case h5r3 => simp only [List.getElem?_toArray]; rfl
  case f5r3 => kernel_rfl
  case r5r3 => kernel_rfl
  case y5r3 => exact yieldsIf_load_mid (by rfl) 22 (.tmp 2) rfl (w.heap.size) 0 rfl (List.map (Value.int .u8) k) _ (fun u hu => range_later hu A2.out.rng) Try.underlying22 rfl (by_cells hk).2.2
  try simp only [Act.put, List.setIfInBounds_toArray, List.set_cons_zero, List.set_cons_succ]
  refine wpAnyH_take (i := 7) (oi := ?o7r3) (v := .agg (List.map (Value.int .u8) vl).toArray) ?h7r3 (by kernel_rfl) ?f7r3 ?r7r3 (fun _ _ _ h => h) ?y7r3 (by assumption) ?t7r3
  case h7r3 => simp only [List.getElem?_toArray]; rfl
  case f7r3 => kernel_rfl
  case r7r3 => kernel_rfl
  case y7r3 => exact yieldsIf_load_mid (by rfl) 22 (.tmp 5) rfl b5 0 rfl (List.map (Value.int .u8) vl) _ (fun u hu => range_later hu A5.out.rng) Try.underlying22 rfl (by_cells hvl).2.2
  try simp only [Act.put, List.setIfInBounds_toArray, List.set_cons_zero, List.set_cons_succ]
  refine wpAnyH_ready (rs := [4]) (by kernel_rfl) (by simp) ?_
  refine AllReadyH.cons (o := ?o4r3) ?h4r3 (fun K hK => ?_) AllReadyH.nil
  case h4r3 => simp only [List.getElem?_toArray]; rfl
  go_simp
  refine (x_l k l hk hl _).mono ?_
  rintro e c3_4 ⟨z15, rfl, hz15, Hz15, hb3_4⟩
  refine hK.out _ _ (hH.trans hb3_4) (fun hH' => ?_)
  clear hK K hH
  have hH := hH'
  clear hH'
  try simp only [List.setIfInBounds_toArray, List.set]
  clear hb3_4
  refine wpAnyH_ready (rs := [6]) (by kernel_rfl) (by simp) ?_
  refine AllReadyH.cons (o := ?o6r3) ?h6r3 (fun K hK => ?_) AllReadyH.nil
  case h6r3 => simp only [List.getElem?_toArray]; rfl
  go_simp
  refine (clamp_c k hk _).mono ?_
  rintro e c3_6 ⟨rfl, hb3_6⟩
  refine hK.out _ _ (hH.trans hb3_6) (fun hH' => ?_)
  clear hK K hH
  have hH := hH'
  clear hH'
  try simp only [List.setIfInBounds_toArray, List.set]
  clear hb3_6
  refine wpAnyH_ready (rs := [8]) (by kernel_rfl) (by simp) ?_
  refine AllReadyH.cons (o := ?o8r3) ?h8r3 (fun K hK => ?_) AllReadyH.nil
  case h8r3 => simp only [List.getElem?_toArray]; rfl
  go_simp
  refine (x_l (cl k) vl (cl_by hk) hvl _).mono ?_
  rintro e c3_8 ⟨z19, rfl, hz19, Hz19, hb3_8⟩
  refine hK.out _ _ (hH.trans hb3_8) (fun hH' => ?_)
  clear hK K hH
  have hH := hH'
  clear hH'
  try simp only [List.setIfInBounds_toArray, List.set]
  clear hb3_8
  have hq20 : ∀ u, Sem.run Try.prog (binOp .eql 22 (.agg (List.map (Value.int .u8) (lay 32 z15)).toArray) (.agg (List.map (Value.int .u8) (lay 32 z19)).toArray)) u = .ok (.bool true) u := fun u => eql_same _ _ (lay_by _) (lay_by _) (by rw [Hz15.out, Hz19.out, cl_cl hk, HNU.out]) u
  refine wpAnyH_take (i := 9) (oi := ?o9r3) (v := ?v9r3) ?h9r3 (by kernel_rfl) ?f9r3 ?r9r3 (fun _ _ _ h => h) (Or.inl ⟨?w9r3, ?y9r3⟩) (by assumption) ?t9r3
  case h9r3 => simp only [List.getElem?_toArray]; rfl
  case f9r3 => kernel_rfl
  case r9r3 => kernel_rfl
  case w9r3 => rfl
  case y9r3 => (intro u hu; (go_simp) <;> with_reducible rfl)
  try simp only [Act.put, List.setIfInBounds_toArray, List.set_cons_zero, List.set_cons_succ]
  refine wpAnyH_take (i := 10) (oi := ?o10r3) (v := ?v10r3) ?h10r3 (by kernel_rfl) ?f10r3 ?r10r3 (fun _ _ _ h => h) (Or.inl ⟨?w10r3, ?y10r3⟩) (by assumption) ?t10r3
  case h10r3 => simp only [List.getElem?_toArray]; rfl
  case f10r3 => kernel_rfl
  case r10r3 => kernel_rfl
  case w10r3 => rfl
  case y10r3 => (intro u hu; (go_simp) <;> with_reducible rfl)
  try simp only [Act.put, List.setIfInBounds_toArray, List.set_cons_zero, List.set_cons_succ]
  refine wpAnyH_take (i := 11) (oi := ?o11r3) (v := ?v11r3) ?h11r3 (by kernel_rfl) ?f11r3 ?r11r3 (fun _ _ _ h => h) (Or.inl ⟨?w11r3, ?y11r3⟩) (by assumption) ?t11r3
  case h11r3 => simp only [List.getElem?_toArray]; rfl
  case f11r3 => kernel_rfl
  case r11r3 => kernel_rfl
  case w11r3 => rfl
  case y11r3 => (intro u hu; (go_simp) <;> with_reducible rfl)
  try simp only [Act.put, List.setIfInBounds_toArray, List.set_cons_zero, List.set_cons_succ]
  refine wpAnyH_take (i := 12) (oi := ?o12r3) (v := .agg (List.map (Value.int .u8) k).toArray) ?h12r3 (by kernel_rfl) ?f12r3 ?r12r3 (fun _ _ _ h => h) ?y12r3 (by assumption) ?t12r3
  case h12r3 => simp only [List.getElem?_toArray]; rfl
  case f12r3 => kernel_rfl
  case r12r3 => kernel_rfl
  case y12r3 => exact yieldsIf_load_mid (by rfl) 22 (.tmp 2) rfl (w.heap.size) 0 rfl (List.map (Value.int .u8) k) _ (fun u hu => range_later hu A2.out.rng) Try.underlying22 rfl (by_cells hk).2.2
  try simp only [Act.put, List.setIfInBounds_toArray, List.set_cons_zero, List.set_cons_succ]
  refine wpAnyH_take (i := 15) (oi := ?o15r3) (v := .agg (List.map (Value.int .u8) k).toArray) ?h15r3 (by kernel_rfl) ?f15r3 ?r15r3 (fun _ _ _ h => h) ?y15r3 (by assumption) ?t15r3
  case h15r3 => simp only [List.getElem?_toArray]; rfl
  case f15r3 => kernel_rfl
  case r15r3 => kernel_rfl
  case y15r3 => exact yieldsIf_load_mid (by rfl) 22 (.tmp 2) rfl (w.heap.size) 0 rfl (List.map (Value.int .u8) k) _ (fun u hu => range_later hu A2.out.rng) Try.underlying22 rfl (by_cells hk).2.2
  try simp only [Act.put, List.setIfInBounds_toArray, List.set_cons_zero, List.set_cons_succ]
  refine wpAnyH_ready (rs := [13]) (by kernel_rfl) (by simp) ?_
  refine AllReadyH.cons (o := ?o13r3) ?h13r3 (fun K hK => ?_) AllReadyH.nil
  case h13r3 => simp only [List.getElem?_toArray]; rfl
  go_simp
  refine (clamp_c k hk _).mono ?_
  rintro e c3_13 ⟨rfl, hb3_13⟩
  refine hK.out _ _ (hH.trans hb3_13) (fun hH' => ?_)
  clear hK K hH
  have hH := hH'
  clear hH'
  try simp only [List.setIfInBounds_toArray, List.set]
  clear hb3_13
  refine wpAnyH_ready (rs := [14]) (by kernel_rfl) (by simp) ?_
  refine AllReadyH.cons (o := ?o14r3) ?h14r3 (fun K hK => ?_) AllReadyH.nil
  case h14r3 => simp only [List.getElem?_toArray]; rfl
  go_simp
  refine (clamp_c (cl k) (cl_by hk) _).mono ?_
  rintro e c3_14 ⟨rfl, hb3_14⟩
  refine hK.out _ _ (hH.trans hb3_14) (fun hH' => ?_)
  clear hK K hH
  have hH := hH'
  clear hH'
  try simp only [List.setIfInBounds_toArray, List.set]
  clear hb3_14
  refine wpAnyH_ready (rs := [16]) (by kernel_rfl) (by simp) ?_
  refine AllReadyH.cons (o := ?o16r3) ?h16r3 (fun K hK => ?_) AllReadyH.nil
  case h16r3 => simp only [List.getElem?_toArray]; rfl
  go_simp
  refine (clamp_c k hk _).mono ?_
  rintro e c3_16 ⟨rfl, hb3_16⟩
  refine hK.out _ _ (hH.trans hb3_16) (fun hH' => ?_)
  clear hK K hH
  have hH := hH'
  clear hH'
  try simp only [List.setIfInBounds_toArray, List.set]
  clear hb3_16
  have hq28 : ∀ u, Sem.run Try.prog (binOp .eql 22 (.agg (List.map (Value.int .u8) (cl (cl k))).toArray) (.agg (List.map (Value.int .u8) (cl k)).toArray)) u = .ok (.bool true) u := fun u => eql_same _ _ (cl_by (cl_by hk)) (cl_by hk) (cl_cl hk) u
  refine wpAnyH_take (i := 17) (oi := ?o17r3) (v := ?v17r3) ?h17r3 (by kernel_rfl) ?f17r3 ?r17r3 (fun _ _ _ h => h) (Or.inl ⟨?w17r3, ?y17r3⟩) (by assumption) ?t17r3
  case h17r3 => simp only [List.getElem?_toArray]; rfl
  case f17r3 => kernel_rfl
  case r17r3 => kernel_rfl
  case w17r3 => rfl
  case y17r3 => (intro u hu; (go_simp) <;> with_reducible rfl)
  try simp only [Act.put, List.setIfInBounds_toArray, List.set_cons_zero, List.set_cons_succ]
  refine wpAnyH_take (i := 18) (oi := ?o18r3) (v := ?v18r3) ?h18r3 (by kernel_rfl) ?f18r3 ?r18r3 (fun _ _ _ h => h) (Or.inl ⟨?w18r3, ?y18r3⟩) (by assumption) ?t18r3
  case h18r3 => simp only [List.getElem?_toArray]; rfl
  case f18r3 => kernel_rfl
  case r18r3 => kernel_rfl
  case w18r3 => rfl
  case y18r3 => (intro u hu; (go_simp) <;> with_reducible rfl)
  try simp only [Act.put, List.setIfInBounds_toArray, List.set_cons_zero, List.set_cons_succ]
  refine wpAnyH_take (i := 19) (oi := ?o19r3) (v := ?v19r3) ?h19r3 (by kernel_rfl) ?f19r3 ?r19r3 (fun _ _ _ h => h) (Or.inl ⟨?w19r3, ?y19r3⟩) (by assumption) ?t19r3
  case h19r3 => simp only [List.getElem?_toArray]; rfl
  case f19r3 => kernel_rfl
  case r19r3 => kernel_rfl
  case w19r3 => rfl
  case y19r3 => (intro u hu; (go_simp) <;> with_reducible rfl)
  try simp only [Act.put, List.setIfInBounds_toArray, List.set_cons_zero, List.set_cons_succ]
  refine wpAnyH_done (by kernel_rfl) ?_ _
  refine NoPanic.normal ?_
  go_wp2
  go_ret
  exact ⟨rfl, HB.out.trans (Below.mono hH HB.out.size)⟩
end Go.Proofs.Ytdfmbknofdkffaa
