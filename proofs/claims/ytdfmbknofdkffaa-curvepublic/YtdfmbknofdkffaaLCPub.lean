/-
  The walk of CurvePublic: true for whatever is given. No statement of the seat is proved here.
-/
import Derived.Test.YtdfmbknofdkffaaCKnw
import Derived.Test.YtdfmbknofdkffaaMOrd
namespace Go.Proofs.Ytdfmbknofdkffaa
open Go.RowKit

theorem neq_arr (a b : List Int) (ha : By a) (hb : By b) (h : a ≠ b) (w : World) : Sem.run Try.prog (binOp .neq 22 (.agg (List.map (Value.int .u8) a).toArray) (.agg (List.map (Value.int .u8) b).toArray)) w = .ok (.bool true) w := by
  obtain ⟨xs, x1, x2, x3⟩ := bytes_of a ha.byt
  obtain ⟨ys, y1, y2, y3⟩ := bytes_of b hb.byt
  rw [x2, y2, run_neq_struct, run_equalIn_bytes (P := Try.prog) w 9998 22 5 32 Try.underlying22 Try.underlying5 (fun _ => by kernel_rfl) xs ys (x1.trans ha.len) (y1.trans hb.len)]
  have e : (xs == ys) = false := by
    rw [beq_eq_false_iff_ne]
    intro e
    apply h
    rw [x3, y3, e]
  rw [e]
  rfl
theorem lay_ne {z : Int} (hz : El z) (h : z ≠ 0) : lay 32 z ≠ bz 0 := fun e => h (by rw [← num_laid z hz, e, num_bz 0 (by decide) (by decide)])
theorem lay_at : ∀ (k n : Nat) (z : Int), n < k → (lay k z)[n]? = some (z / 256 ^ n % 256)
  | 0, n, _, h => absurd h (Nat.not_lt_zero n)
  | k + 1, 0, z, _ => by rw [lay, List.getElem?_cons_zero, Int.pow_zero, Int.ediv_one]
  | k + 1, n + 1, z, h => by
    rw [lay, List.getElem?_cons_succ, lay_at k n _ (by omega), Int.pow_succ, Int.mul_comm, Int.ediv_ediv_of_nonneg (by decide)]
theorem byte31 (z : Int) (hz : El z) : ∃ q : Int, (lay 32 z)[31]? = some q ∧ 0 ≤ q ∧ q < 128 := by
  obtain ⟨h0, h1⟩ := hz
  refine ⟨_, lay_at 32 31 z (by decide), ?_⟩
  rw [show (256 : Int) ^ 31 = 452312848583266388373324160190187140051835877600158453279131187530910662656 from by decide]
  omega

set_option maxHeartbeats 8000000 in
theorem curvePublic_walk (k l : List Int) (hk : By k) (hl : By l) (w : World) :
    Calls Try.prog 6 #[(.agg (List.map (Value.int .u8) k).toArray), (.agg (List.map (Value.int .u8) l).toArray)] w fun e w' => e = .returned (.bool true) ∧ Below w.heap.size w w' := by
  go_enter Try.func6, Try.ntmps6
  go_upto_region 1 with fail
  have HB : Hid (Below w.heap.size w ((w.alloc (.cells (List.map (Value.int .u8) k).toArray 22)).alloc (.cells (List.map (Value.int .u8) l).toArray 22))) := bel2 _ _ _
  have A2 : Hid (Arr ((w.alloc (.cells (List.map (Value.int .u8) k).toArray 22)).alloc (.cells (List.map (Value.int .u8) l).toArray 22)) (w.heap.size) (List.map (Value.int .u8) k)) := by
    have := (arr_box w k hk).later (bel1 _ (.cells (List.map (Value.int .u8) l).toArray 22))
    simpa [Hid] using this
  have A3 : Hid (Arr ((w.alloc (.cells (List.map (Value.int .u8) k).toArray 22)).alloc (.cells (List.map (Value.int .u8) l).toArray 22)) (w.heap.size + 1) (List.map (Value.int .u8) l)) := by
    have := arr_box (w.alloc (.cells (List.map (Value.int .u8) k).toArray 22)) l hl
    simpa [Hid] using this
  generalize (w.alloc (.cells (List.map (Value.int .u8) k).toArray 22)).alloc (.cells (List.map (Value.int .u8) l).toArray 22) = W0 at *
  generalize w.heap.size + 1 = q1 at *
  go_wp2_with (first | (refine wpList_load_mid rfl 22 (.tmp 2) rfl (w.heap.size) 0 rfl (List.map (Value.int .u8) k) _ A2.out.rng Try.underlying22 rfl (by_cells hk).2.2 ?_))
  refine (public_l k hk _).mono ?_
  rintro e u1_0 ⟨z9, rfl, hz9, Hz9, hb1_0⟩
  have hc1_1 : Hid (Below W0.heap.size W0 u1_0) := hb1_0
  clear hb1_0
  have hby5 := (lay_by z9)
  generalize hcs : (List.map (Value.int .u8) (lay 32 z9)) = cs5 at *
  have HC5 : Hid ((List.map (Value.int .u8) (lay 32 z9)) = cs5) := hcs
  clear hcs
  obtain ⟨hlen5, hone5, hi5⟩ := by_cells' hby5 HC5
  have hth := there_new u1_0 32 #[.int .u8 0, .int .u8 0, .int .u8 0, .int .u8 0, .int .u8 0, .int .u8 0, .int .u8 0, .int .u8 0, .int .u8 0, .int .u8 0, .int .u8 0, .int .u8 0, .int .u8 0, .int .u8 0, .int .u8 0, .int .u8 0, .int .u8 0, .int .u8 0, .int .u8 0, .int .u8 0, .int .u8 0, .int .u8 0, .int .u8 0, .int .u8 0, .int .u8 0, .int .u8 0, .int .u8 0, .int .u8 0, .int .u8 0, .int .u8 0, .int .u8 0, .int .u8 0] rfl 22
  have A5 := arr_new u1_0 #[.int .u8 0, .int .u8 0, .int .u8 0, .int .u8 0, .int .u8 0, .int .u8 0, .int .u8 0, .int .u8 0, .int .u8 0, .int .u8 0, .int .u8 0, .int .u8 0, .int .u8 0, .int .u8 0, .int .u8 0, .int .u8 0, .int .u8 0, .int .u8 0, .int .u8 0, .int .u8 0, .int .u8 0, .int .u8 0, .int .u8 0, .int .u8 0, .int .u8 0, .int .u8 0, .int .u8 0, .int .u8 0, .int .u8 0, .int .u8 0, .int .u8 0, .int .u8 0] rfl cs5 hlen5
  have N5 := bel_new u1_0 #[.int .u8 0, .int .u8 0, .int .u8 0, .int .u8 0, .int .u8 0, .int .u8 0, .int .u8 0, .int .u8 0, .int .u8 0, .int .u8 0, .int .u8 0, .int .u8 0, .int .u8 0, .int .u8 0, .int .u8 0, .int .u8 0, .int .u8 0, .int .u8 0, .int .u8 0, .int .u8 0, .int .u8 0, .int .u8 0, .int .u8 0, .int .u8 0, .int .u8 0, .int .u8 0, .int .u8 0, .int .u8 0, .int .u8 0, .int .u8 0, .int .u8 0, .int .u8 0] cs5
  have hX : Hid (Below W0.heap.size W0 ((u1_0.alloc (.cells #[.int .u8 0, .int .u8 0, .int .u8 0, .int .u8 0, .int .u8 0, .int .u8 0, .int .u8 0, .int .u8 0, .int .u8 0, .int .u8 0, .int .u8 0, .int .u8 0, .int .u8 0, .int .u8 0, .int .u8 0, .int .u8 0, .int .u8 0, .int .u8 0, .int .u8 0, .int .u8 0, .int .u8 0, .int .u8 0, .int .u8 0, .int .u8 0, .int .u8 0, .int .u8 0, .int .u8 0, .int .u8 0, .int .u8 0, .int .u8 0, .int .u8 0, .int .u8 0] 22)).setCells u1_0.heap.size 0 cs5)) := hc1_1.out.trans (N5.mono hc1_1.out.size)
  have hge5 : w.heap.size ≤ u1_0.heap.size := Nat.le_trans HB.out.size hc1_1.out.size
  have lt5_A2 : (w.heap.size) < u1_0.heap.size := (A2.out.later hc1_1.out).lt
  have lt5_A3 : q1 < u1_0.heap.size := (A3.out.later hc1_1.out).lt
  go_upto_region 2 with (refine wpList_store_mid rfl 22 (.tmp 5) (.tmp 9) rfl (u1_0.heap.size) 0 cs5.toArray rfl rfl (by simpa [hlen5] using hth) (by simpa using hi5) (all_oneCell_toArray hone5) ?_)
  clear hth
  generalize (u1_0.alloc (.cells #[.int .u8 0, .int .u8 0, .int .u8 0, .int .u8 0, .int .u8 0, .int .u8 0, .int .u8 0, .int .u8 0, .int .u8 0, .int .u8 0, .int .u8 0, .int .u8 0, .int .u8 0, .int .u8 0, .int .u8 0, .int .u8 0, .int .u8 0, .int .u8 0, .int .u8 0, .int .u8 0, .int .u8 0, .int .u8 0, .int .u8 0, .int .u8 0, .int .u8 0, .int .u8 0, .int .u8 0, .int .u8 0, .int .u8 0, .int .u8 0, .int .u8 0, .int .u8 0] 22)).setCells u1_0.heap.size 0 cs5 = W5 at *
  generalize u1_0.heap.size = b5 at *
  replace A2 : Hid (Arr W5 (w.heap.size) (List.map (Value.int .u8) k)) := A2.out.later hX.out
  replace A3 : Hid (Arr W5 q1 (List.map (Value.int .u8) l)) := A3.out.later hX.out
  replace HB : Hid (Below w.heap.size w W5) := HB.out.trans (Below.mono hX.out HB.out.size)
  clear hX hc1_1 N5
  have HC := HC5.out
  subst HC
  have A5' : Hid (Arr W5 b5 (List.map (Value.int .u8) (lay 32 z9))) := A5
  clear A5 HC5 hlen5 hone5 hi5
  have A5 := A5'
  clear A5'
  go_wp2_with (first | (refine wpList_load_mid rfl 22 (.tmp 3) rfl q1 0 rfl (List.map (Value.int .u8) l) _ A3.out.rng Try.underlying22 rfl (by_cells hl).2.2 ?_) | (refine wpList_load_mid rfl 22 (.tmp 5) rfl b5 0 rfl (List.map (Value.int .u8) (lay 32 z9)) _ A5.out.rng Try.underlying22 rfl (by_cells hby5).2.2 ?_))
  refine (shared_l l (lay 32 z9) hl (lay_by z9) _).mono ?_
  rintro e w2 ⟨z13, hz13, Hz13, hsh, hb⟩
  rcases hsh with ⟨h0, -⟩ | ⟨h0, rfl⟩
  · exact absurd (show xn (leN (cl l)) (num (lay 32 (xn (leN (cl k)) 9))) = 0 by rw [← Hz9.out, ← Hz13.out, h0]) (public_l_ne hk hl)
  replace A2 : Hid (Arr w2 (w.heap.size) (List.map (Value.int .u8) k)) := A2.out.later hb
  replace A3 : Hid (Arr w2 q1 (List.map (Value.int .u8) l)) := A3.out.later hb
  replace A5 : Hid (Arr w2 b5 (List.map (Value.int .u8) (lay 32 z9))) := A5.out.later hb
  replace HB : Hid (Below w.heap.size w w2) := HB.out.trans (Below.mono hb HB.out.size)
  clear hb
  have H0 : Hid (z13 ≠ 0) := h0
  clear h0
  have hby6 := lay_by z13
  obtain ⟨hlen0, hone0, hi0⟩ := by_cells hby6
  have hth := there_new w2 32 #[.int .u8 0, .int .u8 0, .int .u8 0, .int .u8 0, .int .u8 0, .int .u8 0, .int .u8 0, .int .u8 0, .int .u8 0, .int .u8 0, .int .u8 0, .int .u8 0, .int .u8 0, .int .u8 0, .int .u8 0, .int .u8 0, .int .u8 0, .int .u8 0, .int .u8 0, .int .u8 0, .int .u8 0, .int .u8 0, .int .u8 0, .int .u8 0, .int .u8 0, .int .u8 0, .int .u8 0, .int .u8 0, .int .u8 0, .int .u8 0, .int .u8 0, .int .u8 0] rfl 22
  have A6 : Hid (Arr ((w2.alloc (.cells #[.int .u8 0, .int .u8 0, .int .u8 0, .int .u8 0, .int .u8 0, .int .u8 0, .int .u8 0, .int .u8 0, .int .u8 0, .int .u8 0, .int .u8 0, .int .u8 0, .int .u8 0, .int .u8 0, .int .u8 0, .int .u8 0, .int .u8 0, .int .u8 0, .int .u8 0, .int .u8 0, .int .u8 0, .int .u8 0, .int .u8 0, .int .u8 0, .int .u8 0, .int .u8 0, .int .u8 0, .int .u8 0, .int .u8 0, .int .u8 0, .int .u8 0, .int .u8 0] 22)).setCells w2.heap.size 0 (List.map (Value.int .u8) (lay 32 z13))) w2.heap.size (List.map (Value.int .u8) (lay 32 z13))) := arr_new w2 #[.int .u8 0, .int .u8 0, .int .u8 0, .int .u8 0, .int .u8 0, .int .u8 0, .int .u8 0, .int .u8 0, .int .u8 0, .int .u8 0, .int .u8 0, .int .u8 0, .int .u8 0, .int .u8 0, .int .u8 0, .int .u8 0, .int .u8 0, .int .u8 0, .int .u8 0, .int .u8 0, .int .u8 0, .int .u8 0, .int .u8 0, .int .u8 0, .int .u8 0, .int .u8 0, .int .u8 0, .int .u8 0, .int .u8 0, .int .u8 0, .int .u8 0, .int .u8 0] rfl (List.map (Value.int .u8) (lay 32 z13)) hlen0
  have hX : Hid (Below w2.heap.size w2 ((w2.alloc (.cells #[.int .u8 0, .int .u8 0, .int .u8 0, .int .u8 0, .int .u8 0, .int .u8 0, .int .u8 0, .int .u8 0, .int .u8 0, .int .u8 0, .int .u8 0, .int .u8 0, .int .u8 0, .int .u8 0, .int .u8 0, .int .u8 0, .int .u8 0, .int .u8 0, .int .u8 0, .int .u8 0, .int .u8 0, .int .u8 0, .int .u8 0, .int .u8 0, .int .u8 0, .int .u8 0, .int .u8 0, .int .u8 0, .int .u8 0, .int .u8 0, .int .u8 0, .int .u8 0] 22)).setCells w2.heap.size 0 (List.map (Value.int .u8) (lay 32 z13)))) := bel_new w2 #[.int .u8 0, .int .u8 0, .int .u8 0, .int .u8 0, .int .u8 0, .int .u8 0, .int .u8 0, .int .u8 0, .int .u8 0, .int .u8 0, .int .u8 0, .int .u8 0, .int .u8 0, .int .u8 0, .int .u8 0, .int .u8 0, .int .u8 0, .int .u8 0, .int .u8 0, .int .u8 0, .int .u8 0, .int .u8 0, .int .u8 0, .int .u8 0, .int .u8 0, .int .u8 0, .int .u8 0, .int .u8 0, .int .u8 0, .int .u8 0, .int .u8 0, .int .u8 0] (List.map (Value.int .u8) (lay 32 z13))
  generalize hcs6 : (List.map (Value.int .u8) (lay 32 z13)) = cs6 at *
  go_upto_region 3 with (refine wpList_store_mid rfl 22 (.tmp 6) (.tmp 14) rfl (w2.heap.size) 0 cs6.toArray rfl rfl (by simpa [hlen0] using hth) (by simpa using hi0) (all_oneCell_toArray hone0) ?_)
  clear hth hlen0 hone0 hi0
  generalize (w2.alloc (.cells #[.int .u8 0, .int .u8 0, .int .u8 0, .int .u8 0, .int .u8 0, .int .u8 0, .int .u8 0, .int .u8 0, .int .u8 0, .int .u8 0, .int .u8 0, .int .u8 0, .int .u8 0, .int .u8 0, .int .u8 0, .int .u8 0, .int .u8 0, .int .u8 0, .int .u8 0, .int .u8 0, .int .u8 0, .int .u8 0, .int .u8 0, .int .u8 0, .int .u8 0, .int .u8 0, .int .u8 0, .int .u8 0, .int .u8 0, .int .u8 0, .int .u8 0, .int .u8 0] 22)).setCells w2.heap.size 0 cs6 = W6 at *
  replace A2 : Hid (Arr W6 (w.heap.size) (List.map (Value.int .u8) k)) := A2.out.later hX.out
  replace A3 : Hid (Arr W6 q1 (List.map (Value.int .u8) l)) := A3.out.later hX.out
  replace A5 : Hid (Arr W6 b5 (List.map (Value.int .u8) (lay 32 z9))) := A5.out.later hX.out
  replace HB : Hid (Below w.heap.size w W6) := HB.out.trans (Below.mono hX.out HB.out.size)
  clear hX
  generalize w2.heap.size = b6 at *
  have A6' : Hid (Arr W6 b6 (List.map (Value.int .u8) (lay 32 z13))) := by unfold Hid; rw [hcs6]; exact A6.out
  clear A6
  have A6 := A6'
  clear A6'
  subst hcs6
  obtain ⟨qq, hqq, hq0, hq1⟩ : ∃ q : Int, (lay 32 z9)[31]? = some q ∧ 0 ≤ q ∧ q < 128 := byte31 z9 hz9
  have c31 : ∀ u, Ext W6 u → u.cell? ⟨b5, 31, none⟩ = some (.int .u8 qq) := fun u hu => by
    have h1 := A5.out.rng 31 (.int .u8 qq) (by rw [List.getElem?_map, hqq]; rfl)
    rw [Nat.zero_add] at h1
    exact hu.cell h1
  clear hqq
  refine wp_region_noPanic ?_
  refine wp_region_held_drew (S := Ext W6) (by kernel_rfl) (Ext.refl _).drew (fun hH => ?_)
  change wpAnyH _ _ _ _ _ _ #[false, false, false, false, false, false, false, false, false, false, false, false, false, false, false, false, false, false, false, false, false, false, false, false, false, false, false, false, false, false] _ _
  refine wpAnyH_ready (rs := [0]) (by kernel_rfl) (by simp) ?_
  refine AllReadyH.cons (o := ?o0r3) ?h0r3 (fun K hK => ?_) AllReadyH.nil
  case h0r3 => simp only [List.getElem?_toArray]; rfl
  go_simp
  refine (known_any _).mono ?_
  rintro e c3_0 ⟨rfl, hb3_0⟩
  refine hK.out _ _ (hH.trans hb3_0) (fun hH' => ?_)
  clear hK K hH
  have hH := hH'
  clear hH'
  try simp only [List.setIfInBounds_toArray, List.set]
  clear hb3_0
  refine wpAnyH_take (i := 1) (oi := ?o1r3) (v := ?v1r3) ?h1r3 (by kernel_rfl) ?f1r3 ?r1r3 (fun _ _ _ h => h) (Or.inl ⟨?w1r3, ?y1r3⟩) (by assumption) ?t1r3
  case h1r3 => simp only [List.getElem?_toArray]; rfl
  case f1r3 => kernel_rfl
  case r1r3 => kernel_rfl
  case w1r3 => rfl
  case y1r3 => (intro u hu; (go_simp) <;> with_reducible rfl)
  try simp only [Act.put, List.setIfInBounds_toArray, List.set_cons_zero, List.set_cons_succ]
  refine wpAnyH_take (i := 2) (oi := ?o2r3) (v := .agg (List.map (Value.int .u8) (lay 32 z9)).toArray) ?h2r3 (by kernel_rfl) ?f2r3 ?r2r3 (fun _ _ _ h => h) ?y2r3 (by assumption) ?t2r3
  case h2r3 => simp only [List.getElem?_toArray]; rfl
  case f2r3 => kernel_rfl
  case r2r3 => kernel_rfl
  case y2r3 => exact yieldsIf_load_mid (by rfl) 22 (.tmp 5) rfl b5 0 rfl (List.map (Value.int .u8) (lay 32 z9)) _ (fun u hu => range_later hu A5.out.rng) Try.underlying22 rfl (by_cells hby5).2.2
  try simp only [Act.put, List.setIfInBounds_toArray, List.set_cons_zero, List.set_cons_succ]
  refine wpAnyH_take (i := 3) (oi := ?o3r3) (v := .agg (List.map (Value.int .u8) k).toArray) ?h3r3 (by kernel_rfl) ?f3r3 ?r3r3 (fun _ _ _ h => h) ?y3r3 (by assumption) ?t3r3
  case h3r3 => simp only [List.getElem?_toArray]; rfl
  case f3r3 => kernel_rfl
  case r3r3 => kernel_rfl
  case y3r3 => exact yieldsIf_load_mid (by rfl) 22 (.tmp 2) rfl (w.heap.size) 0 rfl (List.map (Value.int .u8) k) _ (fun u hu => range_later hu A2.out.rng) Try.underlying22 rfl (by_cells hk).2.2
  try simp only [Act.put, List.setIfInBounds_toArray, List.set_cons_zero, List.set_cons_succ]
  refine wpAnyH_take (i := 4) (oi := ?o4r3) (v := ?v4r3) ?h4r3 (by kernel_rfl) ?f4r3 ?r4r3 (fun _ _ _ h => h) (Or.inl ⟨?w4r3, ?y4r3⟩) (by assumption) ?t4r3
  case h4r3 => simp only [List.getElem?_toArray]; rfl
  case f4r3 => kernel_rfl
  case r4r3 => kernel_rfl
  case w4r3 => rfl
  case y4r3 => (intro u hu; (go_simp) <;> with_reducible rfl)
  try simp only [Act.put, List.setIfInBounds_toArray, List.set_cons_zero, List.set_cons_succ]
  refine wpAnyH_ready (rs := [5]) (by kernel_rfl) (by simp) ?_
  refine AllReadyH.cons (o := ?o5r3) ?h5r3 (fun K hK => ?_) AllReadyH.nil
  case h5r3 => simp only [List.getElem?_toArray]; rfl
  go_simp
  rw [bz_arr 9]
  refine (x_l k (bz 9) hk (bz_by 9 (by decide) (by decide)) _).mono ?_
  rintro e c3_5 ⟨z21, rfl, hz21, Hz21, hb3_5⟩
  refine hK.out _ _ (hH.trans hb3_5) (fun hH' => ?_)
  clear hK K hH
  have hH := hH'
  clear hH'
  try simp only [List.setIfInBounds_toArray, List.set]
  clear hb3_5
  have hq22 : ∀ u, Sem.run Try.prog (binOp .eql 22 (.agg (List.map (Value.int .u8) (lay 32 z9)).toArray) (.agg (List.map (Value.int .u8) (lay 32 z21)).toArray)) u = .ok (.bool true) u := fun u => eql_same _ _ (lay_by _) (lay_by _) (by rw [Hz9.out, Hz21.out, num_bz 9 (by decide) (by decide)]) u
  refine wpAnyH_take (i := 6) (oi := ?o6r3) (v := ?v6r3) ?h6r3 (by kernel_rfl) ?f6r3 ?r6r3 (fun _ _ _ h => h) (Or.inl ⟨?w6r3, ?y6r3⟩) (by assumption) ?t6r3
  case h6r3 => simp only [List.getElem?_toArray]; rfl
  case f6r3 => kernel_rfl
  case r6r3 => kernel_rfl
  case w6r3 => rfl
  case y6r3 => (intro u hu; (go_simp) <;> with_reducible rfl)
  try simp only [Act.put, List.setIfInBounds_toArray, List.set_cons_zero, List.set_cons_succ]
  refine wpAnyH_take (i := 7) (oi := ?o7r3) (v := ?v7r3) ?h7r3 (by kernel_rfl) ?f7r3 ?r7r3 (fun _ _ _ h => h) (Or.inl ⟨?w7r3, ?y7r3⟩) (by assumption) ?t7r3
  case h7r3 => simp only [List.getElem?_toArray]; rfl
  case f7r3 => kernel_rfl
  case r7r3 => kernel_rfl
  case w7r3 => rfl
  case y7r3 => (intro u hu; (go_simp) <;> with_reducible rfl)
  try simp only [Act.put, List.setIfInBounds_toArray, List.set_cons_zero, List.set_cons_succ]
  refine wpAnyH_take (i := 8) (oi := ?o8r3) (v := ?v8r3) ?h8r3 (by kernel_rfl) ?f8r3 ?r8r3 (fun _ _ _ h => h) (Or.inl ⟨?w8r3, ?y8r3⟩) (by assumption) ?t8r3
  case h8r3 => simp only [List.getElem?_toArray]; rfl
  case f8r3 => kernel_rfl
  case r8r3 => kernel_rfl
  case w8r3 => rfl
  case y8r3 => (intro u hu; (go_simp) <;> with_reducible rfl)
  try simp only [Act.put, List.setIfInBounds_toArray, List.set_cons_zero, List.set_cons_succ]
  refine wpAnyH_take (i := 9) (oi := ?o9r3) (v := ?v9r3) ?h9r3 (by kernel_rfl) ?f9r3 ?r9r3 (fun _ _ _ h => h) (Or.inl ⟨?w9r3, ?y9r3⟩) (by assumption) ?t9r3
  case h9r3 => simp only [List.getElem?_toArray]; rfl
  case f9r3 => kernel_rfl
  case r9r3 => kernel_rfl
  case w9r3 => rfl
  case y9r3 => (intro u hu; (go_simp) <;> with_reducible rfl)
  try simp only [Act.put, List.setIfInBounds_toArray, List.set_cons_zero, List.set_cons_succ]
  refine wpAnyH_take (i := 10) (oi := ?o10r3) (v := ?v10r3) ?h10r3 (by kernel_rfl) ?f10r3 ?r10r3 (fun _ _ _ h => h) (Or.inl ⟨?w10r3, ?y10r3⟩) (by assumption) ?t10r3
  case h10r3 => simp only [List.getElem?_toArray]; rfl
  case f10r3 => kernel_rfl
  case r10r3 => kernel_rfl
  case w10r3 => rfl
  case y10r3 => (intro u hu; (go_simp) <;> with_reducible rfl)
  try simp only [Act.put, List.setIfInBounds_toArray, List.set_cons_zero, List.set_cons_succ]
  refine wpAnyH_take (i := 11) (oi := ?o11r3) (v := ?v11r3) ?h11r3 (by kernel_rfl) ?f11r3 ?r11r3 (fun _ _ _ h => h) (Or.inl ⟨?w11r3, ?y11r3⟩) (by assumption) ?t11r3
  case h11r3 => simp only [List.getElem?_toArray]; rfl
  case f11r3 => kernel_rfl
  case r11r3 => kernel_rfl
  case w11r3 => rfl
  case y11r3 => (intro u hu; (go_simp) <;> with_reducible rfl)
  try simp only [Act.put, List.setIfInBounds_toArray, List.set_cons_zero, List.set_cons_succ]
  refine wpAnyH_take (i := 12) (oi := ?o12r3) (v := ?v12r3) ?h12r3 (by kernel_rfl) ?f12r3 ?r12r3 (fun _ _ _ h => h) (Or.inl ⟨?w12r3, ?y12r3⟩) (by assumption) ?t12r3
  case h12r3 => simp only [List.getElem?_toArray]; rfl
  case f12r3 => kernel_rfl
  case r12r3 => kernel_rfl
  case w12r3 => rfl
  case y12r3 => (intro u hu; (go_simp) <;> with_reducible rfl)
  try simp only [Act.put, List.setIfInBounds_toArray, List.set_cons_zero, List.set_cons_succ]
  refine wpAnyH_take (i := 13) (oi := ?o13r3) (v := .agg (List.map (Value.int .u8) (lay 32 z13)).toArray) ?h13r3 (by kernel_rfl) ?f13r3 ?r13r3 (fun _ _ _ h => h) ?y13r3 (by assumption) ?t13r3
  case h13r3 => simp only [List.getElem?_toArray]; rfl
  case f13r3 => kernel_rfl
  case r13r3 => kernel_rfl
  case y13r3 => exact yieldsIf_load_mid (by rfl) 22 (.tmp 6) rfl b6 0 rfl (List.map (Value.int .u8) (lay 32 z13)) _ (fun u hu => range_later hu A6.out.rng) Try.underlying22 rfl (by_cells hby6).2.2
  try simp only [Act.put, List.setIfInBounds_toArray, List.set_cons_zero, List.set_cons_succ]
  refine wpAnyH_take (i := 14) (oi := ?o14r3) (v := ?v14r3) ?h14r3 (by kernel_rfl) ?f14r3 ?r14r3 (fun _ _ _ h => h) (Or.inl ⟨?w14r3, ?y14r3⟩) (by assumption) ?t14r3
  case h14r3 => simp only [List.getElem?_toArray]; rfl
  case f14r3 => kernel_rfl
  case r14r3 => kernel_rfl
  case w14r3 => rfl
  case y14r3 => (intro u hu; (go_simp) <;> with_reducible rfl)
  try simp only [Act.put, List.setIfInBounds_toArray, List.set_cons_zero, List.set_cons_succ]
  have hq31 : ∀ u, Sem.run Try.prog (binOp .neq 22 (.agg (List.map (Value.int .u8) (lay 32 z13)).toArray) (.agg #[.int .u8 0, .int .u8 0, .int .u8 0, .int .u8 0, .int .u8 0, .int .u8 0, .int .u8 0, .int .u8 0, .int .u8 0, .int .u8 0, .int .u8 0, .int .u8 0, .int .u8 0, .int .u8 0, .int .u8 0, .int .u8 0, .int .u8 0, .int .u8 0, .int .u8 0, .int .u8 0, .int .u8 0, .int .u8 0, .int .u8 0, .int .u8 0, .int .u8 0, .int .u8 0, .int .u8 0, .int .u8 0, .int .u8 0, .int .u8 0, .int .u8 0, .int .u8 0])) u = .ok (.bool true) u := fun u => by
    rw [bz_arr 0]
    exact neq_arr _ _ (lay_by _) (bz_by 0 (by decide) (by decide)) (lay_ne hz13 H0.out) u
  refine wpAnyH_take (i := 15) (oi := ?o15r3) (v := ?v15r3) ?h15r3 (by kernel_rfl) ?f15r3 ?r15r3 (fun _ _ _ h => h) (Or.inl ⟨?w15r3, ?y15r3⟩) (by assumption) ?t15r3
  case h15r3 => simp only [List.getElem?_toArray]; rfl
  case f15r3 => kernel_rfl
  case r15r3 => kernel_rfl
  case w15r3 => rfl
  case y15r3 => (intro u hu; (go_simp) <;> with_reducible rfl)
  try simp only [Act.put, List.setIfInBounds_toArray, List.set_cons_zero, List.set_cons_succ]
  refine wpAnyH_take (i := 16) (oi := ?o16r3) (v := ?v16r3) ?h16r3 (by kernel_rfl) ?f16r3 ?r16r3 (fun _ _ _ h => h) (Or.inl ⟨?w16r3, ?y16r3⟩) (by assumption) ?t16r3
  case h16r3 => simp only [List.getElem?_toArray]; rfl
  case f16r3 => kernel_rfl
  case r16r3 => kernel_rfl
  case w16r3 => rfl
  case y16r3 => (intro u hu; (go_simp) <;> with_reducible rfl)
  try simp only [Act.put, List.setIfInBounds_toArray, List.set_cons_zero, List.set_cons_succ]
  refine wpAnyH_take (i := 17) (oi := ?o17r3) (v := ?v17r3) ?h17r3 (by kernel_rfl) ?f17r3 ?r17r3 (fun _ _ _ h => h) (Or.inl ⟨?w17r3, ?y17r3⟩) (by assumption) ?t17r3
  case h17r3 => simp only [List.getElem?_toArray]; rfl
  case f17r3 => kernel_rfl
  case r17r3 => kernel_rfl
  case w17r3 => rfl
  case y17r3 => (intro u hu; (go_simp) <;> with_reducible rfl)
  try simp only [Act.put, List.setIfInBounds_toArray, List.set_cons_zero, List.set_cons_succ]
  refine wpAnyH_take (i := 18) (oi := ?o18r3) (v := .agg (List.map (Value.int .u8) (lay 32 z13)).toArray) ?h18r3 (by kernel_rfl) ?f18r3 ?r18r3 (fun _ _ _ h => h) ?y18r3 (by assumption) ?t18r3
  case h18r3 => simp only [List.getElem?_toArray]; rfl
  case f18r3 => kernel_rfl
  case r18r3 => kernel_rfl
  case y18r3 => exact yieldsIf_load_mid (by rfl) 22 (.tmp 6) rfl b6 0 rfl (List.map (Value.int .u8) (lay 32 z13)) _ (fun u hu => range_later hu A6.out.rng) Try.underlying22 rfl (by_cells hby6).2.2
  try simp only [Act.put, List.setIfInBounds_toArray, List.set_cons_zero, List.set_cons_succ]
  refine wpAnyH_take (i := 19) (oi := ?o19r3) (v := .agg (List.map (Value.int .u8) l).toArray) ?h19r3 (by kernel_rfl) ?f19r3 ?r19r3 (fun _ _ _ h => h) ?y19r3 (by assumption) ?t19r3
  case h19r3 => simp only [List.getElem?_toArray]; rfl
  case f19r3 => kernel_rfl
  case r19r3 => kernel_rfl
  case y19r3 => exact yieldsIf_load_mid (by rfl) 22 (.tmp 3) rfl q1 0 rfl (List.map (Value.int .u8) l) _ (fun u hu => range_later hu A3.out.rng) Try.underlying22 rfl (by_cells hl).2.2
  try simp only [Act.put, List.setIfInBounds_toArray, List.set_cons_zero, List.set_cons_succ]
  refine wpAnyH_take (i := 20) (oi := ?o20r3) (v := .agg (List.map (Value.int .u8) (lay 32 z9)).toArray) ?h20r3 (by kernel_rfl) ?f20r3 ?r20r3 (fun _ _ _ h => h) ?y20r3 (by assumption) ?t20r3
  case h20r3 => simp only [List.getElem?_toArray]; rfl
  case f20r3 => kernel_rfl
  case r20r3 => kernel_rfl
  case y20r3 => exact yieldsIf_load_mid (by rfl) 22 (.tmp 5) rfl b5 0 rfl (List.map (Value.int .u8) (lay 32 z9)) _ (fun u hu => range_later hu A5.out.rng) Try.underlying22 rfl (by_cells hby5).2.2
  try simp only [Act.put, List.setIfInBounds_toArray, List.set_cons_zero, List.set_cons_succ]
  refine wpAnyH_ready (rs := [21]) (by kernel_rfl) (by simp) ?_
  refine AllReadyH.cons (o := ?o21r3) ?h21r3 (fun K hK => ?_) AllReadyH.nil
  case h21r3 => simp only [List.getElem?_toArray]; rfl
  go_simp
  refine (x_l l (lay 32 z9) hl hby5 _).mono ?_
  rintro e c3_21 ⟨z37, rfl, hz37, Hz37, hb3_21⟩
  refine hK.out _ _ (hH.trans hb3_21) (fun hH' => ?_)
  clear hK K hH
  have hH := hH'
  clear hH'
  try simp only [List.setIfInBounds_toArray, List.set]
  clear hb3_21
  have hq38 : ∀ u, Sem.run Try.prog (binOp .eql 22 (.agg (List.map (Value.int .u8) (lay 32 z13)).toArray) (.agg (List.map (Value.int .u8) (lay 32 z37)).toArray)) u = .ok (.bool true) u := fun u => eql_same _ _ (lay_by _) (lay_by _) (by rw [Hz13.out, Hz37.out]) u
  refine wpAnyH_take (i := 22) (oi := ?o22r3) (v := ?v22r3) ?h22r3 (by kernel_rfl) ?f22r3 ?r22r3 (fun _ _ _ h => h) (Or.inl ⟨?w22r3, ?y22r3⟩) (by assumption) ?t22r3
  case h22r3 => simp only [List.getElem?_toArray]; rfl
  case f22r3 => kernel_rfl
  case r22r3 => kernel_rfl
  case w22r3 => rfl
  case y22r3 => (intro u hu; (go_simp) <;> with_reducible rfl)
  try simp only [Act.put, List.setIfInBounds_toArray, List.set_cons_zero, List.set_cons_succ]
  refine wpAnyH_take (i := 23) (oi := ?o23r3) (v := ?v23r3) ?h23r3 (by kernel_rfl) ?f23r3 ?r23r3 (fun _ _ _ h => h) (Or.inl ⟨?w23r3, ?y23r3⟩) (by assumption) ?t23r3
  case h23r3 => simp only [List.getElem?_toArray]; rfl
  case f23r3 => kernel_rfl
  case r23r3 => kernel_rfl
  case w23r3 => rfl
  case y23r3 => (intro u hu; (go_simp) <;> with_reducible rfl)
  try simp only [Act.put, List.setIfInBounds_toArray, List.set_cons_zero, List.set_cons_succ]
  refine wpAnyH_take (i := 24) (oi := ?o24r3) (v := ?v24r3) ?h24r3 (by kernel_rfl) ?f24r3 ?r24r3 (fun _ _ _ h => h) (Or.inl ⟨?w24r3, ?y24r3⟩) (by assumption) ?t24r3
  case h24r3 => simp only [List.getElem?_toArray]; rfl
  case f24r3 => kernel_rfl
  case r24r3 => kernel_rfl
  case w24r3 => rfl
  case y24r3 => (intro u hu; (go_simp) <;> with_reducible rfl)
  try simp only [Act.put, List.setIfInBounds_toArray, List.set_cons_zero, List.set_cons_succ]
  refine wpAnyH_take (i := 25) (oi := ?o25r3) (v := ?v25r3) ?h25r3 (by kernel_rfl) ?f25r3 ?r25r3 (fun _ _ _ h => h) (Or.inl ⟨?w25r3, ?y25r3⟩) (by assumption) ?t25r3
  case h25r3 => simp only [List.getElem?_toArray]; rfl
  case f25r3 => kernel_rfl
  case r25r3 => kernel_rfl
  case w25r3 => rfl
  case y25r3 => (intro u hu; (go_simp) <;> with_reducible rfl)
  try simp only [Act.put, List.setIfInBounds_toArray, List.set_cons_zero, List.set_cons_succ]
  refine wpAnyH_take (i := 26) (oi := ?o26r3) (v := ?v26r3) ?h26r3 (by kernel_rfl) ?f26r3 ?r26r3 (fun _ _ _ h => h) (Or.inl ⟨?w26r3, ?y26r3⟩) (by assumption) ?t26r3
  case h26r3 => simp only [List.getElem?_toArray]; rfl
  case f26r3 => kernel_rfl
  case r26r3 => kernel_rfl
  case w26r3 => rfl
  case y26r3 => (intro u hu; (go_simp) <;> with_reducible rfl)
  try simp only [Act.put, List.setIfInBounds_toArray, List.set_cons_zero, List.set_cons_succ]
  refine wpAnyH_take (i := 27) (oi := ?o27r3) (v := ?v27r3) ?h27r3 (by kernel_rfl) ?f27r3 ?r27r3 (fun _ _ _ h => h) (Or.inl ⟨?w27r3, ?y27r3⟩) (by assumption) ?t27r3
  case h27r3 => simp only [List.getElem?_toArray]; rfl
  case f27r3 => kernel_rfl
  case r27r3 => kernel_rfl
  case w27r3 => rfl
  case y27r3 => (intro u hu; (go_simp) <;> with_reducible rfl)
  try simp only [Act.put, List.setIfInBounds_toArray, List.set_cons_zero, List.set_cons_succ]
  refine wpAnyH_take (i := 28) (oi := ?o28r3) (v := ?v28r3) ?h28r3 (by kernel_rfl) ?f28r3 ?r28r3 (fun _ _ _ h => h) (Or.inl ⟨?w28r3, ?y28r3⟩) (by assumption) ?t28r3
  case h28r3 => simp only [List.getElem?_toArray]; rfl
  case f28r3 => kernel_rfl
  case r28r3 => kernel_rfl
  case w28r3 => rfl
  case y28r3 => (intro u hu; (go_simp) <;> with_reducible rfl)
  try simp only [Act.put, List.setIfInBounds_toArray, List.set_cons_zero, List.set_cons_succ]
  refine wpAnyH_take (i := 29) (oi := ?o29r3) (v := ?v29r3) ?h29r3 (by kernel_rfl) ?f29r3 ?r29r3 (fun _ _ _ h => h) (Or.inl ⟨?w29r3, ?y29r3⟩) (by assumption) ?t29r3
  case h29r3 => simp only [List.getElem?_toArray]; rfl
  case f29r3 => kernel_rfl
  case r29r3 => kernel_rfl
  case w29r3 => rfl
  case y29r3 => (intro u hu; (go_simp) <;> with_reducible rfl)
  try simp only [Act.put, List.setIfInBounds_toArray, List.set_cons_zero, List.set_cons_succ]
  refine wpAnyH_done (by kernel_rfl) ?_ _
  refine NoPanic.normal ?_
  go_wp2
  go_ret
  exact ⟨rfl, HB.out.trans (Below.mono hH HB.out.size)⟩
end Go.Proofs.Ytdfmbknofdkffaa
