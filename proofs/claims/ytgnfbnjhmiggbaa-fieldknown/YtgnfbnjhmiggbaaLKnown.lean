/-
  The walk of FieldKnown: the closed sentence is true. No statement of the seat is proved here.
-/
import Derived.Test.YtgnfbnjhmiggbaaFLawM
namespace Go.Proofs.Ytgnfbnjhmiggbaa
open Go.RowKit

/-- The bytes of p with the highest bit. -/
def tp : List Int := [237] ++ ff 30 ++ [255]
theorem tp_by : By tp := ⟨by simp [tp, ff_len], (Byt.app (Byt.cons (by decide) (by decide) Byt.nil) (ff_by 30)).app (Byt.cons (by decide) (by decide) Byt.nil)⟩

set_option maxHeartbeats 8000000 in
theorem fieldKnown_walk (w : World) :
    Calls Try.prog 3 #[] w fun e w' => e = .returned (.bool true) ∧ Below w.heap.size w w' := by
  go_enter Try.func3, Try.ntmps3
  go_upto_region 1 with fail
  have HB : Hid (Below w.heap.size w w) := Below.refl _ _
  go_wp2_with fail
  refine (prime_any 0 (by decide) _).mono ?_
  rintro e u1_0 ⟨l3, rfl, hl3, Hl3, hb1_0⟩
  have hc1_1 : Hid (Below w.heap.size w u1_0) := hb1_0
  clear hb1_0
  have hby1 := hl3
  generalize hcs : (List.map (Value.int .u8) l3) = cs1 at *
  have HC1 : Hid ((List.map (Value.int .u8) l3) = cs1) := hcs
  clear hcs
  obtain ⟨hlen1, hone1, hi1⟩ := by_cells' hby1 HC1
  have hth := there_new u1_0 32 #[.int .u8 0, .int .u8 0, .int .u8 0, .int .u8 0, .int .u8 0, .int .u8 0, .int .u8 0, .int .u8 0, .int .u8 0, .int .u8 0, .int .u8 0, .int .u8 0, .int .u8 0, .int .u8 0, .int .u8 0, .int .u8 0, .int .u8 0, .int .u8 0, .int .u8 0, .int .u8 0, .int .u8 0, .int .u8 0, .int .u8 0, .int .u8 0, .int .u8 0, .int .u8 0, .int .u8 0, .int .u8 0, .int .u8 0, .int .u8 0, .int .u8 0, .int .u8 0] rfl 22
  have A1 := arr_new u1_0 #[.int .u8 0, .int .u8 0, .int .u8 0, .int .u8 0, .int .u8 0, .int .u8 0, .int .u8 0, .int .u8 0, .int .u8 0, .int .u8 0, .int .u8 0, .int .u8 0, .int .u8 0, .int .u8 0, .int .u8 0, .int .u8 0, .int .u8 0, .int .u8 0, .int .u8 0, .int .u8 0, .int .u8 0, .int .u8 0, .int .u8 0, .int .u8 0, .int .u8 0, .int .u8 0, .int .u8 0, .int .u8 0, .int .u8 0, .int .u8 0, .int .u8 0, .int .u8 0] rfl cs1 hlen1
  have N1 := bel_new u1_0 #[.int .u8 0, .int .u8 0, .int .u8 0, .int .u8 0, .int .u8 0, .int .u8 0, .int .u8 0, .int .u8 0, .int .u8 0, .int .u8 0, .int .u8 0, .int .u8 0, .int .u8 0, .int .u8 0, .int .u8 0, .int .u8 0, .int .u8 0, .int .u8 0, .int .u8 0, .int .u8 0, .int .u8 0, .int .u8 0, .int .u8 0, .int .u8 0, .int .u8 0, .int .u8 0, .int .u8 0, .int .u8 0, .int .u8 0, .int .u8 0, .int .u8 0, .int .u8 0] cs1
  have hX : Hid (Below w.heap.size w ((u1_0.alloc (.cells #[.int .u8 0, .int .u8 0, .int .u8 0, .int .u8 0, .int .u8 0, .int .u8 0, .int .u8 0, .int .u8 0, .int .u8 0, .int .u8 0, .int .u8 0, .int .u8 0, .int .u8 0, .int .u8 0, .int .u8 0, .int .u8 0, .int .u8 0, .int .u8 0, .int .u8 0, .int .u8 0, .int .u8 0, .int .u8 0, .int .u8 0, .int .u8 0, .int .u8 0, .int .u8 0, .int .u8 0, .int .u8 0, .int .u8 0, .int .u8 0, .int .u8 0, .int .u8 0] 22)).setCells u1_0.heap.size 0 cs1)) := hc1_1.out.trans (N1.mono hc1_1.out.size)
  have hge1 : w.heap.size ≤ u1_0.heap.size := Nat.le_trans HB.out.size hc1_1.out.size
  go_upto_region 2 with (refine wpList_store_mid rfl 22 (.tmp 1) (.tmp 3) rfl (u1_0.heap.size) 0 cs1.toArray rfl rfl (by simpa [hlen1] using hth) (by simpa using hi1) (all_oneCell_toArray hone1) ?_)
  clear hth
  generalize (u1_0.alloc (.cells #[.int .u8 0, .int .u8 0, .int .u8 0, .int .u8 0, .int .u8 0, .int .u8 0, .int .u8 0, .int .u8 0, .int .u8 0, .int .u8 0, .int .u8 0, .int .u8 0, .int .u8 0, .int .u8 0, .int .u8 0, .int .u8 0, .int .u8 0, .int .u8 0, .int .u8 0, .int .u8 0, .int .u8 0, .int .u8 0, .int .u8 0, .int .u8 0, .int .u8 0, .int .u8 0, .int .u8 0, .int .u8 0, .int .u8 0, .int .u8 0, .int .u8 0, .int .u8 0] 22)).setCells u1_0.heap.size 0 cs1 = W1 at *
  generalize u1_0.heap.size = b1 at *
  replace HB : Hid (Below w.heap.size w W1) := HB.out.trans (Below.mono hX.out HB.out.size)
  clear hX hc1_1 N1
  have HC := HC1.out
  subst HC
  have A1' : Hid (Arr W1 b1 (List.map (Value.int .u8) l3)) := A1
  clear A1 HC1 hlen1 hone1 hi1
  have A1 := A1'
  clear A1'
  have HP : Hid (l3 = pl 237) := by unfold Hid; rw [Hl3.out]; rfl
  obtain ⟨v31, hc31, hf31⟩ := there_cell A1.out.all 31 (by decide)
  go_upto_region 3 with fail
  have A1' : Hid (Arr (W1.setCell ⟨b1, 31, none⟩ (.int .u8 255)) b1 (List.map (Value.int .u8) tp)) := by
    refine ⟨?_, there_set A1.out.all _ _ _⟩
    have r := range_sub A1.out.rng 0 31
    have e : (((List.map (Value.int .u8) l3)).drop 0).take 31 = (List.map (Value.int .u8) ([237] ++ ff 30)) := by rw [HP.out]; rfl
    rw [e] at r
    have a := range_far r (.inr (by simp [ff_len])) (.int .u8 255) (k := 31)
    have c := range_one (v := .int .u8 255) hc31
    exact range_app a c
  have HB' : Hid (Below w.heap.size w (W1.setCell ⟨b1, 31, none⟩ (.int .u8 255))) := HB.out.setCell (p := ⟨b1, 31, none⟩) hge1 _
  generalize W1.setCell ⟨b1, 31, none⟩ (.int .u8 255) = X1 at *
  clear A1 HB hc31 hf31
  have A1 := A1'
  have HB := HB'
  clear A1' HB'
  generalize htp : tp = tl at *
  have HT : Hid (tl = tp) := htp.symm
  have hbt : By tl := by rw [← htp]; exact tp_by
  clear htp
  go_wp2_with fail
  refine (one_e _).mono ?_
  rintro e u3_0 ⟨rfl, hb3_0⟩
  have hc3_1 : Hid (Below X1.heap.size X1 u3_0) := hb3_0
  clear hb3_0
  go_wp2_with fail
  refine (one_e _).mono ?_
  rintro e u3_1 ⟨rfl, hb3_1⟩
  have hc3_2 : Hid (Below X1.heap.size X1 u3_1) := hc3_1.out.trans ((hb3_1).mono hc3_1.out.size)
  clear hb3_1 hc3_1
  go_wp2_with fail
  refine (add_e 1 1 El.one El.one _).mono ?_
  rintro e u3_2 ⟨z7, rfl, hz7, Hz7, hb3_2⟩
  have hc3_3 : Hid (Below X1.heap.size X1 u3_2) := hc3_2.out.trans ((hb3_2).mono hc3_2.out.size)
  clear hb3_2 hc3_2
  go_upto_region 4 with fail
  have hX : Hid (Below X1.heap.size X1 (u3_2.alloc (.cells #[.int .u64 (e0 z7), .int .u64 (e1 z7), .int .u64 (e2 z7), .int .u64 (e3 z7)] 28))) := hc3_3.out.trans ((bel1 u3_2 _).mono hc3_3.out.size)
  have V2 : Hid (Var (u3_2.alloc (.cells #[.int .u64 (e0 z7), .int .u64 (e1 z7), .int .u64 (e2 z7), .int .u64 (e3 z7)] 28)) (u3_2.heap.size) z7) := var_new u3_2 z7 _
  have hge2 : w.heap.size ≤ u3_2.heap.size := Nat.le_trans HB.out.size hc3_3.out.size
  generalize u3_2.alloc (.cells #[.int .u64 (e0 z7), .int .u64 (e1 z7), .int .u64 (e2 z7), .int .u64 (e3 z7)] 28) = W2 at *
  generalize u3_2.heap.size = b2 at *
  replace A1 : Hid (Arr W2 b1 (List.map (Value.int .u8) tl)) := A1.out.later hX.out
  replace HB : Hid (Below w.heap.size w W2) := HB.out.trans (Below.mono hX.out HB.out.size)
  clear hX hc3_3
  have H2 : Hid (z7 = 2) := by unfold Hid; rw [Hz7.out]; rfl
  obtain ⟨V2c0, V2c1, V2c2, V2c3⟩ := V2.out
  have V2u0 : ∀ u, Ext W2 u → u.cell? ⟨b2, 0, none⟩ = some (.int .u64 (e0 z7)) := fun u hu => hu.cell V2c0
  have V2u1 : ∀ u, Ext W2 u → u.cell? ⟨b2, 1, none⟩ = some (.int .u64 (e1 z7)) := fun u hu => hu.cell V2c1
  have V2u2 : ∀ u, Ext W2 u → u.cell? ⟨b2, 2, none⟩ = some (.int .u64 (e2 z7)) := fun u hu => hu.cell V2c2
  have V2u3 : ∀ u, Ext W2 u → u.cell? ⟨b2, 3, none⟩ = some (.int .u64 (e3 z7)) := fun u hu => hu.cell V2c3
  clear V2c0 V2c1 V2c2 V2c3
  refine wp_region_noPanic ?_
  refine wp_region_held_drew (S := Ext W2) (by kernel_rfl) (Ext.refl _).drew (fun hH => ?_)
  change wpAnyH _ _ _ _ _ _ #[false, false, false, false, false, false, false, false, false, false, false, false, false, false, false, false, false, false, false, false, false, false, false, false, false, false, false, false, false, false, false, false, false, false, false, false, false] _ _
  refine wpAnyH_ready (rs := [0]) (by kernel_rfl) (by simp) ?_
  refine AllReadyH.cons (o := ?o0r4) ?h0r4 (fun K hK => ?_) AllReadyH.nil
  case h0r4 => simp only [List.getElem?_toArray]; rfl
  go_simp
  refine (known_any _).mono ?_
  rintro e c4_0 ⟨rfl, hb4_0⟩
  refine hK.out _ _ (hH.trans hb4_0) (fun hH' => ?_)
  clear hK K hH
  have hH := hH'
  clear hH'
  try simp only [List.setIfInBounds_toArray, List.set]
  clear hb4_0
  refine wpAnyH_take (i := 1) (oi := ?o1r4) (v := ?v1r4) ?h1r4 (by kernel_rfl) ?f1r4 ?r1r4 (fun _ _ _ h => h) (Or.inl ⟨?w1r4, ?y1r4⟩) (by assumption) ?t1r4
  case h1r4 => simp only [List.getElem?_toArray]; rfl
  case f1r4 => kernel_rfl
  case r1r4 => kernel_rfl
  case w1r4 => rfl
  case y1r4 => (intro u hu; (go_simp) <;> with_reducible rfl)
  try simp only [Act.put, List.setIfInBounds_toArray, List.set_cons_zero, List.set_cons_succ]
  refine wpAnyH_take (i := 2) (oi := ?o2r4) (v := .agg (List.map (Value.int .u8) tl).toArray) ?h2r4 (by kernel_rfl) ?f2r4 ?r2r4 (fun _ _ _ h => h) ?y2r4 (by assumption) ?t2r4
  case h2r4 => simp only [List.getElem?_toArray]; rfl
  case f2r4 => kernel_rfl
  case r2r4 => kernel_rfl
  case y2r4 => exact yieldsIf_load_mid (by rfl) 22 (.tmp 1) rfl b1 0 rfl (List.map (Value.int .u8) tl) _ (fun u hu => range_later hu A1.out.rng) Try.underlying22 rfl (by_cells hbt).2.2
  try simp only [Act.put, List.setIfInBounds_toArray, List.set_cons_zero, List.set_cons_succ]
  refine wpAnyH_take (i := 5) (oi := ?o5r4) (v := ?v5r4) ?h5r4 (by kernel_rfl) ?f5r4 ?r5r4 (fun _ _ _ h => h) (Or.inl ⟨?w5r4, ?y5r4⟩) (by assumption) ?t5r4
  case h5r4 => simp only [List.getElem?_toArray]; rfl
  case f5r4 => kernel_rfl
  case r5r4 => kernel_rfl
  case w5r4 => rfl
  case y5r4 => (intro u hu; (go_simp) <;> with_reducible rfl)
  try simp only [Act.put, List.setIfInBounds_toArray, List.set_cons_zero, List.set_cons_succ]
  refine wpAnyH_ready (rs := [3]) (by kernel_rfl) (by simp) ?_
  refine AllReadyH.cons (o := ?o3r4) ?h3r4 (fun K hK => ?_) AllReadyH.nil
  case h3r4 => simp only [List.getElem?_toArray]; rfl
  go_simp
  refine (from_e tl hbt _).mono ?_
  rintro e c4_3 ⟨z11, rfl, hz11, Hz11, hb4_3⟩
  refine hK.out _ _ (hH.trans hb4_3) (fun hH' => ?_)
  clear hK K hH
  have hH := hH'
  clear hH'
  try simp only [List.setIfInBounds_toArray, List.set]
  clear hb4_3
  refine wpAnyH_ready (rs := [4]) (by kernel_rfl) (by simp) ?_
  refine AllReadyH.cons (o := ?o4r4) ?h4r4 (fun K hK => ?_) AllReadyH.nil
  case h4r4 => simp only [List.getElem?_toArray]; rfl
  go_simp
  refine (bytes_e z11 hz11 _).mono ?_
  rintro e c4_4 ⟨rfl, hb4_4⟩
  refine hK.out _ _ (hH.trans hb4_4) (fun hH' => ?_)
  clear hK K hH
  have hH := hH'
  clear hH'
  try simp only [List.setIfInBounds_toArray, List.set]
  clear hb4_4
  have hq11 : ∀ u, Sem.run Try.prog (binOp .eql 22 (.agg (List.map (Value.int .u8) (lay 32 z11)).toArray) (.agg #[.int .u8 0, .int .u8 0, .int .u8 0, .int .u8 0, .int .u8 0, .int .u8 0, .int .u8 0, .int .u8 0, .int .u8 0, .int .u8 0, .int .u8 0, .int .u8 0, .int .u8 0, .int .u8 0, .int .u8 0, .int .u8 0, .int .u8 0, .int .u8 0, .int .u8 0, .int .u8 0, .int .u8 0, .int .u8 0, .int .u8 0, .int .u8 0, .int .u8 0, .int .u8 0, .int .u8 0, .int .u8 0, .int .u8 0, .int .u8 0, .int .u8 0, .int .u8 0])) u = .ok (.bool true) u := fun u => by rw [zs_eq]; exact eql_same _ _ (lay_by _) (lay_by _) (by rw [show z11 = 0 from (by rw [Hz11.out, HT.out]; decide)]) u
  refine wpAnyH_take (i := 6) (oi := ?o6r4) (v := ?v6r4) ?h6r4 (by kernel_rfl) ?f6r4 ?r6r4 (fun _ _ _ h => h) (Or.inl ⟨?w6r4, ?y6r4⟩) (by assumption) ?t6r4
  case h6r4 => simp only [List.getElem?_toArray]; rfl
  case f6r4 => kernel_rfl
  case r6r4 => kernel_rfl
  case w6r4 => rfl
  case y6r4 => (intro u hu; (go_simp) <;> with_reducible rfl)
  try simp only [Act.put, List.setIfInBounds_toArray, List.set_cons_zero, List.set_cons_succ]
  refine wpAnyH_take (i := 7) (oi := ?o7r4) (v := ?v7r4) ?h7r4 (by kernel_rfl) ?f7r4 ?r7r4 (fun _ _ _ h => h) (Or.inl ⟨?w7r4, ?y7r4⟩) (by assumption) ?t7r4
  case h7r4 => simp only [List.getElem?_toArray]; rfl
  case f7r4 => kernel_rfl
  case r7r4 => kernel_rfl
  case w7r4 => rfl
  case y7r4 => (intro u hu; (go_simp) <;> with_reducible rfl)
  try simp only [Act.put, List.setIfInBounds_toArray, List.set_cons_zero, List.set_cons_succ]
  refine wpAnyH_take (i := 8) (oi := ?o8r4) (v := ?v8r4) ?h8r4 (by kernel_rfl) ?f8r4 ?r8r4 (fun _ _ _ h => h) (Or.inl ⟨?w8r4, ?y8r4⟩) (by assumption) ?t8r4
  case h8r4 => simp only [List.getElem?_toArray]; rfl
  case f8r4 => kernel_rfl
  case r8r4 => kernel_rfl
  case w8r4 => rfl
  case y8r4 => (intro u hu; (go_simp) <;> with_reducible rfl)
  try simp only [Act.put, List.setIfInBounds_toArray, List.set_cons_zero, List.set_cons_succ]
  refine wpAnyH_take (i := 12) (oi := ?o12r4) (v := ?v12r4) ?h12r4 (by kernel_rfl) ?f12r4 ?r12r4 (fun _ _ _ h => h) (Or.inl ⟨?w12r4, ?y12r4⟩) (by assumption) ?t12r4
  case h12r4 => simp only [List.getElem?_toArray]; rfl
  case f12r4 => kernel_rfl
  case r12r4 => kernel_rfl
  case w12r4 => rfl
  case y12r4 => (intro u hu; (go_simp) <;> with_reducible rfl)
  try simp only [Act.put, List.setIfInBounds_toArray, List.set_cons_zero, List.set_cons_succ]
  refine wpAnyH_ready (rs := [9]) (by kernel_rfl) (by simp) ?_
  refine AllReadyH.cons (o := ?o9r4) ?h9r4 (fun K hK => ?_) AllReadyH.nil
  case h9r4 => simp only [List.getElem?_toArray]; rfl
  go_simp
  refine (zero_e _).mono ?_
  rintro e c4_9 ⟨rfl, hb4_9⟩
  refine hK.out _ _ (hH.trans hb4_9) (fun hH' => ?_)
  clear hK K hH
  have hH := hH'
  clear hH'
  try simp only [List.setIfInBounds_toArray, List.set]
  clear hb4_9
  refine wpAnyH_ready (rs := [10]) (by kernel_rfl) (by simp) ?_
  refine AllReadyH.cons (o := ?o10r4) ?h10r4 (fun K hK => ?_) AllReadyH.nil
  case h10r4 => simp only [List.getElem?_toArray]; rfl
  go_simp
  refine (invert_e 0 El.zero _).mono ?_
  rintro e c4_10 ⟨z18, rfl, hz18, Hz18, hb4_10⟩
  refine hK.out _ _ (hH.trans hb4_10) (fun hH' => ?_)
  clear hK K hH
  have hH := hH'
  clear hH'
  try simp only [List.setIfInBounds_toArray, List.set]
  clear hb4_10
  refine wpAnyH_ready (rs := [11]) (by kernel_rfl) (by simp) ?_
  refine AllReadyH.cons (o := ?o11r4) ?h11r4 (fun K hK => ?_) AllReadyH.nil
  case h11r4 => simp only [List.getElem?_toArray]; rfl
  go_simp
  refine (bytes_e z18 hz18 _).mono ?_
  rintro e c4_11 ⟨rfl, hb4_11⟩
  refine hK.out _ _ (hH.trans hb4_11) (fun hH' => ?_)
  clear hK K hH
  have hH := hH'
  clear hH'
  try simp only [List.setIfInBounds_toArray, List.set]
  clear hb4_11
  have hq18 : ∀ u, Sem.run Try.prog (binOp .eql 22 (.agg (List.map (Value.int .u8) (lay 32 z18)).toArray) (.agg #[.int .u8 0, .int .u8 0, .int .u8 0, .int .u8 0, .int .u8 0, .int .u8 0, .int .u8 0, .int .u8 0, .int .u8 0, .int .u8 0, .int .u8 0, .int .u8 0, .int .u8 0, .int .u8 0, .int .u8 0, .int .u8 0, .int .u8 0, .int .u8 0, .int .u8 0, .int .u8 0, .int .u8 0, .int .u8 0, .int .u8 0, .int .u8 0, .int .u8 0, .int .u8 0, .int .u8 0, .int .u8 0, .int .u8 0, .int .u8 0, .int .u8 0, .int .u8 0])) u = .ok (.bool true) u := fun u => by rw [zs_eq]; exact eql_same _ _ (lay_by _) (lay_by _) (by rw [show z18 = 0 from (by rw [Hz18.out, pw_zero _ (by decide)])]) u
  refine wpAnyH_take (i := 13) (oi := ?o13r4) (v := ?v13r4) ?h13r4 (by kernel_rfl) ?f13r4 ?r13r4 (fun _ _ _ h => h) (Or.inl ⟨?w13r4, ?y13r4⟩) (by assumption) ?t13r4
  case h13r4 => simp only [List.getElem?_toArray]; rfl
  case f13r4 => kernel_rfl
  case r13r4 => kernel_rfl
  case w13r4 => rfl
  case y13r4 => (intro u hu; (go_simp) <;> with_reducible rfl)
  try simp only [Act.put, List.setIfInBounds_toArray, List.set_cons_zero, List.set_cons_succ]
  refine wpAnyH_take (i := 14) (oi := ?o14r4) (v := ?v14r4) ?h14r4 (by kernel_rfl) ?f14r4 ?r14r4 (fun _ _ _ h => h) (Or.inl ⟨?w14r4, ?y14r4⟩) (by assumption) ?t14r4
  case h14r4 => simp only [List.getElem?_toArray]; rfl
  case f14r4 => kernel_rfl
  case r14r4 => kernel_rfl
  case w14r4 => rfl
  case y14r4 => (intro u hu; (go_simp) <;> with_reducible rfl)
  try simp only [Act.put, List.setIfInBounds_toArray, List.set_cons_zero, List.set_cons_succ]
  refine wpAnyH_take (i := 15) (oi := ?o15r4) (v := ?v15r4) ?h15r4 (by kernel_rfl) ?f15r4 ?r15r4 (fun _ _ _ h => h) (Or.inl ⟨?w15r4, ?y15r4⟩) (by assumption) ?t15r4
  case h15r4 => simp only [List.getElem?_toArray]; rfl
  case f15r4 => kernel_rfl
  case r15r4 => kernel_rfl
  case w15r4 => rfl
  case y15r4 => (intro u hu; (go_simp) <;> with_reducible rfl)
  try simp only [Act.put, List.setIfInBounds_toArray, List.set_cons_zero, List.set_cons_succ]
  refine wpAnyH_take (i := 16) (oi := ?o16r4) (v := ?v16r4) ?h16r4 (by kernel_rfl) ?f16r4 ?r16r4 (fun _ _ _ h => h) (Or.inl ⟨?w16r4, ?y16r4⟩) (by assumption) ?t16r4
  case h16r4 => simp only [List.getElem?_toArray]; rfl
  case f16r4 => kernel_rfl
  case r16r4 => kernel_rfl
  case w16r4 => rfl
  case y16r4 => (intro u hu; (go_simp) <;> with_reducible rfl)
  try simp only [Act.put, List.setIfInBounds_toArray, List.set_cons_zero, List.set_cons_succ]
  refine wpAnyH_take (i := 17) (oi := ?o17r4) (v := ?v17r4) ?h17r4 (by kernel_rfl) ?f17r4 ?r17r4 (fun _ _ _ h => h) (Or.inl ⟨?w17r4, ?y17r4⟩) (by assumption) ?t17r4
  case h17r4 => simp only [List.getElem?_toArray]; rfl
  case f17r4 => kernel_rfl
  case r17r4 => kernel_rfl
  case w17r4 => rfl
  case y17r4 => (intro u hu; (go_simp) <;> with_reducible rfl)
  try simp only [Act.put, List.setIfInBounds_toArray, List.set_cons_zero, List.set_cons_succ]
  refine wpAnyH_take (i := 21) (oi := ?o21r4) (v := ?v21r4) ?h21r4 (by kernel_rfl) ?f21r4 ?r21r4 (fun _ _ _ h => h) (Or.inl ⟨?w21r4, ?y21r4⟩) (by assumption) ?t21r4
  case h21r4 => simp only [List.getElem?_toArray]; rfl
  case f21r4 => kernel_rfl
  case r21r4 => kernel_rfl
  case w21r4 => rfl
  case y21r4 => (intro u hu; (go_simp) <;> with_reducible rfl)
  try simp only [Act.put, List.setIfInBounds_toArray, List.set_cons_zero, List.set_cons_succ]
  refine wpAnyH_ready (rs := [18]) (by kernel_rfl) (by simp) ?_
  refine AllReadyH.cons (o := ?o18r4) ?h18r4 (fun K hK => ?_) AllReadyH.nil
  case h18r4 => simp only [List.getElem?_toArray]; rfl
  go_simp
  refine (invert_e z7 hz7 _).mono ?_
  rintro e c4_18 ⟨z26, rfl, hz26, Hz26, hb4_18⟩
  refine hK.out _ _ (hH.trans hb4_18) (fun hH' => ?_)
  clear hK K hH
  have hH := hH'
  clear hH'
  try simp only [List.setIfInBounds_toArray, List.set]
  clear hb4_18
  refine wpAnyH_ready (rs := [19]) (by kernel_rfl) (by simp) ?_
  refine AllReadyH.cons (o := ?o19r4) ?h19r4 (fun K hK => ?_) AllReadyH.nil
  case h19r4 => simp only [List.getElem?_toArray]; rfl
  go_simp
  refine (mul_e z7 z26 hz7 hz26 _).mono ?_
  rintro e c4_19 ⟨z27, rfl, hz27, Hz27, hb4_19⟩
  refine hK.out _ _ (hH.trans hb4_19) (fun hH' => ?_)
  clear hK K hH
  have hH := hH'
  clear hH'
  try simp only [List.setIfInBounds_toArray, List.set]
  clear hb4_19
  refine wpAnyH_ready (rs := [20]) (by kernel_rfl) (by simp) ?_
  refine AllReadyH.cons (o := ?o20r4) ?h20r4 (fun K hK => ?_) AllReadyH.nil
  case h20r4 => simp only [List.getElem?_toArray]; rfl
  go_simp
  refine (bytes_e z27 hz27 _).mono ?_
  rintro e c4_20 ⟨rfl, hb4_20⟩
  refine hK.out _ _ (hH.trans hb4_20) (fun hH' => ?_)
  clear hK K hH
  have hH := hH'
  clear hH'
  try simp only [List.setIfInBounds_toArray, List.set]
  clear hb4_20
  have hq27 : ∀ u, Sem.run Try.prog (binOp .eql 22 (.agg (List.map (Value.int .u8) (lay 32 z27)).toArray) (.agg #[.int .u8 1, .int .u8 0, .int .u8 0, .int .u8 0, .int .u8 0, .int .u8 0, .int .u8 0, .int .u8 0, .int .u8 0, .int .u8 0, .int .u8 0, .int .u8 0, .int .u8 0, .int .u8 0, .int .u8 0, .int .u8 0, .int .u8 0, .int .u8 0, .int .u8 0, .int .u8 0, .int .u8 0, .int .u8 0, .int .u8 0, .int .u8 0, .int .u8 0, .int .u8 0, .int .u8 0, .int .u8 0, .int .u8 0, .int .u8 0, .int .u8 0, .int .u8 0])) u = .ok (.bool true) u := fun u => by rw [z1_eq]; exact eql_same _ _ (lay_by _) (lay_by _) (by rw [show z27 = 1 from (by rw [Hz27.out, Hz26.out]; exact inv_mul _ hz7 (by rw [H2.out]; decide))]) u
  refine wpAnyH_take (i := 22) (oi := ?o22r4) (v := ?v22r4) ?h22r4 (by kernel_rfl) ?f22r4 ?r22r4 (fun _ _ _ h => h) (Or.inl ⟨?w22r4, ?y22r4⟩) (by assumption) ?t22r4
  case h22r4 => simp only [List.getElem?_toArray]; rfl
  case f22r4 => kernel_rfl
  case r22r4 => kernel_rfl
  case w22r4 => rfl
  case y22r4 => (intro u hu; (go_simp) <;> with_reducible rfl)
  try simp only [Act.put, List.setIfInBounds_toArray, List.set_cons_zero, List.set_cons_succ]
  refine wpAnyH_take (i := 23) (oi := ?o23r4) (v := ?v23r4) ?h23r4 (by kernel_rfl) ?f23r4 ?r23r4 (fun _ _ _ h => h) (Or.inl ⟨?w23r4, ?y23r4⟩) (by assumption) ?t23r4
  case h23r4 => simp only [List.getElem?_toArray]; rfl
  case f23r4 => kernel_rfl
  case r23r4 => kernel_rfl
  case w23r4 => rfl
  case y23r4 => (intro u hu; (go_simp) <;> with_reducible rfl)
  try simp only [Act.put, List.setIfInBounds_toArray, List.set_cons_zero, List.set_cons_succ]
  refine wpAnyH_take (i := 24) (oi := ?o24r4) (v := ?v24r4) ?h24r4 (by kernel_rfl) ?f24r4 ?r24r4 (fun _ _ _ h => h) (Or.inl ⟨?w24r4, ?y24r4⟩) (by assumption) ?t24r4
  case h24r4 => simp only [List.getElem?_toArray]; rfl
  case f24r4 => kernel_rfl
  case r24r4 => kernel_rfl
  case w24r4 => rfl
  case y24r4 => (intro u hu; (go_simp) <;> with_reducible rfl)
  try simp only [Act.put, List.setIfInBounds_toArray, List.set_cons_zero, List.set_cons_succ]
  refine wpAnyH_take (i := 27) (oi := ?o27r4) (v := ?v27r4) ?h27r4 (by kernel_rfl) ?f27r4 ?r27r4 (fun _ _ _ h => h) (Or.inl ⟨?w27r4, ?y27r4⟩) (by assumption) ?t27r4
  case h27r4 => simp only [List.getElem?_toArray]; rfl
  case f27r4 => kernel_rfl
  case r27r4 => kernel_rfl
  case w27r4 => rfl
  case y27r4 => (intro u hu; (go_simp) <;> with_reducible rfl)
  try simp only [Act.put, List.setIfInBounds_toArray, List.set_cons_zero, List.set_cons_succ]
  refine wpAnyH_ready (rs := [25]) (by kernel_rfl) (by simp) ?_
  refine AllReadyH.cons (o := ?o25r4) ?h25r4 (fun K hK => ?_) AllReadyH.nil
  case h25r4 => simp only [List.getElem?_toArray]; rfl
  go_simp
  refine (one_e _).mono ?_
  rintro e c4_25 ⟨rfl, hb4_25⟩
  refine hK.out _ _ (hH.trans hb4_25) (fun hH' => ?_)
  clear hK K hH
  have hH := hH'
  clear hH'
  try simp only [List.setIfInBounds_toArray, List.set]
  clear hb4_25
  refine wpAnyH_ready (rs := [26]) (by kernel_rfl) (by simp) ?_
  refine AllReadyH.cons (o := ?o26r4) ?h26r4 (fun K hK => ?_) AllReadyH.nil
  case h26r4 => simp only [List.getElem?_toArray]; rfl
  go_simp
  refine (small_e 1 2 El.one (by decide) _).mono ?_
  rintro e c4_26 ⟨z34, rfl, hz34, Hz34, hb4_26⟩
  refine hK.out _ _ (hH.trans hb4_26) (fun hH' => ?_)
  clear hK K hH
  have hH := hH'
  clear hH'
  try simp only [List.setIfInBounds_toArray, List.set]
  clear hb4_26
  refine wpAnyH_ready (rs := [28]) (by kernel_rfl) (by simp) ?_
  refine AllReadyH.cons (o := ?o28r4) ?h28r4 (fun K hK => ?_) AllReadyH.nil
  case h28r4 => simp only [List.getElem?_toArray]; rfl
  go_simp
  refine (equal_e z34 z7 hz34 hz7 _).mono ?_
  rintro e c4_28 ⟨rfl, hb4_28⟩
  rw [show same z34 z7 = true from same_t (by rw [Hz34.out, H2.out]; rfl)]
  refine hK.out _ _ (hH.trans hb4_28) (fun hH' => ?_)
  clear hK K hH
  have hH := hH'
  clear hH'
  try simp only [List.setIfInBounds_toArray, List.set]
  clear hb4_28
  refine wpAnyH_take (i := 29) (oi := ?o29r4) (v := ?v29r4) ?h29r4 (by kernel_rfl) ?f29r4 ?r29r4 (fun _ _ _ h => h) (Or.inl ⟨?w29r4, ?y29r4⟩) (by assumption) ?t29r4
  case h29r4 => simp only [List.getElem?_toArray]; rfl
  case f29r4 => kernel_rfl
  case r29r4 => kernel_rfl
  case w29r4 => rfl
  case y29r4 => (intro u hu; (go_simp) <;> with_reducible rfl)
  try simp only [Act.put, List.setIfInBounds_toArray, List.set_cons_zero, List.set_cons_succ]
  refine wpAnyH_take (i := 30) (oi := ?o30r4) (v := ?v30r4) ?h30r4 (by kernel_rfl) ?f30r4 ?r30r4 (fun _ _ _ h => h) (Or.inl ⟨?w30r4, ?y30r4⟩) (by assumption) ?t30r4
  case h30r4 => simp only [List.getElem?_toArray]; rfl
  case f30r4 => kernel_rfl
  case r30r4 => kernel_rfl
  case w30r4 => rfl
  case y30r4 => (intro u hu; (go_simp) <;> with_reducible rfl)
  try simp only [Act.put, List.setIfInBounds_toArray, List.set_cons_zero, List.set_cons_succ]
  refine wpAnyH_take (i := 31) (oi := ?o31r4) (v := ?v31r4) ?h31r4 (by kernel_rfl) ?f31r4 ?r31r4 (fun _ _ _ h => h) (Or.inl ⟨?w31r4, ?y31r4⟩) (by assumption) ?t31r4
  case h31r4 => simp only [List.getElem?_toArray]; rfl
  case f31r4 => kernel_rfl
  case r31r4 => kernel_rfl
  case w31r4 => rfl
  case y31r4 => (intro u hu; (go_simp) <;> with_reducible rfl)
  try simp only [Act.put, List.setIfInBounds_toArray, List.set_cons_zero, List.set_cons_succ]
  refine wpAnyH_ready (rs := [32]) (by kernel_rfl) (by simp) ?_
  refine AllReadyH.cons (o := ?o32r4) ?h32r4 (fun K hK => ?_) AllReadyH.nil
  case h32r4 => simp only [List.getElem?_toArray]; rfl
  go_simp
  refine (one_e _).mono ?_
  rintro e c4_32 ⟨rfl, hb4_32⟩
  refine hK.out _ _ (hH.trans hb4_32) (fun hH' => ?_)
  clear hK K hH
  have hH := hH'
  clear hH'
  try simp only [List.setIfInBounds_toArray, List.set]
  clear hb4_32
  refine wpAnyH_ready (rs := [33]) (by kernel_rfl) (by simp) ?_
  refine AllReadyH.cons (o := ?o33r4) ?h33r4 (fun K hK => ?_) AllReadyH.nil
  case h33r4 => simp only [List.getElem?_toArray]; rfl
  go_simp
  refine (equal_e z7 1 hz7 El.one _).mono ?_
  rintro e c4_33 ⟨rfl, hb4_33⟩
  rw [show same z7 1 = false from same_f (by rw [H2.out]; decide)]
  refine hK.out _ _ (hH.trans hb4_33) (fun hH' => ?_)
  clear hK K hH
  have hH := hH'
  clear hH'
  try simp only [List.setIfInBounds_toArray, List.set]
  clear hb4_33
  refine wpAnyH_take (i := 34) (oi := ?o34r4) (v := ?v34r4) ?h34r4 (by kernel_rfl) ?f34r4 ?r34r4 (fun _ _ _ h => h) (Or.inl ⟨?w34r4, ?y34r4⟩) (by assumption) ?t34r4
  case h34r4 => simp only [List.getElem?_toArray]; rfl
  case f34r4 => kernel_rfl
  case r34r4 => kernel_rfl
  case w34r4 => rfl
  case y34r4 => (intro u hu; (go_simp) <;> with_reducible rfl)
  try simp only [Act.put, List.setIfInBounds_toArray, List.set_cons_zero, List.set_cons_succ]
  refine wpAnyH_take (i := 35) (oi := ?o35r4) (v := ?v35r4) ?h35r4 (by kernel_rfl) ?f35r4 ?r35r4 (fun _ _ _ h => h) (Or.inl ⟨?w35r4, ?y35r4⟩) (by assumption) ?t35r4
  case h35r4 => simp only [List.getElem?_toArray]; rfl
  case f35r4 => kernel_rfl
  case r35r4 => kernel_rfl
  case w35r4 => rfl
  case y35r4 => (intro u hu; (go_simp) <;> with_reducible rfl)
  try simp only [Act.put, List.setIfInBounds_toArray, List.set_cons_zero, List.set_cons_succ]
  refine wpAnyH_take (i := 36) (oi := ?o36r4) (v := ?v36r4) ?h36r4 (by kernel_rfl) ?f36r4 ?r36r4 (fun _ _ _ h => h) (Or.inl ⟨?w36r4, ?y36r4⟩) (by assumption) ?t36r4
  case h36r4 => simp only [List.getElem?_toArray]; rfl
  case f36r4 => kernel_rfl
  case r36r4 => kernel_rfl
  case w36r4 => rfl
  case y36r4 => (intro u hu; (go_simp) <;> with_reducible rfl)
  try simp only [Act.put, List.setIfInBounds_toArray, List.set_cons_zero, List.set_cons_succ]
  refine wpAnyH_done (by kernel_rfl) ?_ _
  refine NoPanic.normal ?_
  go_wp2
  go_ret
  exact ⟨rfl, HB.out.trans (Below.mono hH HB.out.size)⟩
end Go.Proofs.Ytgnfbnjhmiggbaa
