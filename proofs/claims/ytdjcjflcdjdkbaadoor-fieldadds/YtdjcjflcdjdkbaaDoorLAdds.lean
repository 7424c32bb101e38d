/-
  The walk of FieldAdds: true for whatever bytes and numbers, where the variable prime holds the prime's digits. No statement of the seat is proved here.
-/
import Derived.Test.YtdjcjflcdjdkbaaDoorRSub
import Derived.Laws.Small
namespace Go.Proofs.YtdjcjflcdjdkbaaDoor
open Go.RowKit

/-- A small number's digits. -/
def ns (c : Int) : List Int := c % 65536 :: c / 65536 :: List.replicate 14 0
theorem ns_len (c : Int) : (ns c).length = 16 := rfl
theorem ns_dg (c : Int) (h : 0 ≤ c ∧ c < 4294967296) : ns c = dg 16 c := by
  refine dg_of ?_ (ns_len c) ?_
  · refine Dg.mk (by omega) (by omega) (Dg.mk (by omega) (by omega) (fun x hx => ?_))
    rw [(List.mem_replicate.1 hx).2]
    decide
  · have : nv (List.replicate 14 (0 : Int)) = 0 := by decide
    unfold ns
    rw [nv, nv, this]
    omega
theorem num_laid (x : Int) (hx : El x) : num (lay 32 x) = x := by
  have h1 := hx.h0
  have h2 := hx.h1
  unfold num
  rw [leN_lay, Int.emod_eq_of_lt h1 (Int.lt_trans h2 (by decide)), Int.emod_eq_of_lt h1 (Int.lt_trans h2 (by decide)), hx.em]
theorem same_alike (x y : Int) (hx : El x) (hy : El y) : same x y = alike (lay 32 x) (lay 32 y) := by
  unfold same alike
  refine decide_eq_decide.2 ⟨fun h => by rw [h], fun h => ?_⟩
  rw [← num_laid x hx, h, num_laid y hy]

set_option maxHeartbeats 16000000 in
theorem fieldAdds_walk (a b : List Int) (m n c : Int) (ha : By a) (hb : By b) (hm : -9223372036854775808 ≤ m ∧ m ≤ 9223372036854775807) (hn : -9223372036854775808 ≤ n ∧ n ≤ 9223372036854775807) (hc : 0 ≤ c ∧ c < 4294967296) (w : World) (hg : Gp w) :
    Calls Tryd.prog 3 #[(.agg (List.map (Value.int .u8) a).toArray), (.agg (List.map (Value.int .u8) b).toArray), .int .i64 m, .int .i64 n, .int .u32 c] w fun e w' => e = .returned (.bool true) ∧ Below w.heap.size w w' := by
  go_enter Tryd.func3, Tryd.ntmps3
  go_upto_region 1 with fail
  have HB : Hid (Below w.heap.size w ((w.alloc (.cells (List.map (Value.int .u8) a).toArray 22)).alloc (.cells (List.map (Value.int .u8) b).toArray 22))) := bel2 _ _ _
  have A5 : Hid (Arr ((w.alloc (.cells (List.map (Value.int .u8) a).toArray 22)).alloc (.cells (List.map (Value.int .u8) b).toArray 22)) (w.heap.size) (List.map (Value.int .u8) a)) := by
    have := (arr_box w a ha).later (bel1 _ (.cells (List.map (Value.int .u8) b).toArray 22))
    simpa [Hid] using this
  have A6 : Hid (Arr ((w.alloc (.cells (List.map (Value.int .u8) a).toArray 22)).alloc (.cells (List.map (Value.int .u8) b).toArray 22)) (w.heap.size + 1) (List.map (Value.int .u8) b)) := by
    have := arr_box (w.alloc (.cells (List.map (Value.int .u8) a).toArray 22)) b hb
    simpa [Hid] using this
  have HG : Hid (Gp ((w.alloc (.cells (List.map (Value.int .u8) a).toArray 22)).alloc (.cells (List.map (Value.int .u8) b).toArray 22))) := ((hg.later (bel1 _ _)).later (bel1 _ _))
  have hpos : 0 < w.heap.size := hg.pos
  have hq1 : w.heap.size < w.heap.size + 1 := by omega
  generalize (w.alloc (.cells (List.map (Value.int .u8) a).toArray 22)).alloc (.cells (List.map (Value.int .u8) b).toArray 22) = W0 at *
  generalize w.heap.size + 1 = q1 at *
  go_wp2_with (first | (refine wpList_load_mid rfl 22 (.tmp 5) rfl (w.heap.size) 0 rfl (List.map (Value.int .u8) a) _ A5.out.rng Tryd.underlying22 rfl (by_cells ha).2.2 ?_))
  refine (edge_any a ha m hm _).mono ?_
  rintro e u1_0 ⟨l18, rfl, hl18, hb1_0⟩
  have hc1_1 : Hid (Below W0.heap.size W0 u1_0) := hb1_0
  clear hb1_0
  replace A5 : Hid (Arr u1_0 (w.heap.size) (List.map (Value.int .u8) a)) := A5.out.later hc1_1.out
  replace A6 : Hid (Arr u1_0 q1 (List.map (Value.int .u8) b)) := A6.out.later hc1_1.out
  replace HG : Hid (Gp u1_0) := HG.out.later hc1_1.out
  replace HB : Hid (Below w.heap.size w u1_0) := HB.out.trans (Below.mono hc1_1.out HB.out.size)
  clear hc1_1
  obtain ⟨hlenS, honeS, hiS⟩ := by_cells hl18
  have A5n : Hid (Arr (u1_0.setCells (w.heap.size) 0 (List.map (Value.int .u8) l18)) (w.heap.size) (List.map (Value.int .u8) l18)) := ⟨World.rangeAt_setCells_same _ _ _ _ (by rw [hlenS]; exact A5.out.all), World.there_setCells A5.out.all _ _ _⟩
  have A6n : Hid (Arr (u1_0.setCells (w.heap.size) 0 (List.map (Value.int .u8) l18)) q1 (List.map (Value.int .u8) b)) := ⟨World.rangeAt_setCells_apart A6.out.rng _ _ _ (.inl (by omega)), World.there_setCells A6.out.all _ _ _⟩
  have HGn : Hid (Gp (u1_0.setCells (w.heap.size) 0 (List.map (Value.int .u8) l18))) := World.rangeAt_setCells_apart HG.out _ _ _ (.inl (by omega))
  have HBn : Hid (Below w.heap.size w (u1_0.setCells (w.heap.size) 0 (List.map (Value.int .u8) l18))) := below_setCells _ (by omega) _ _ _ HB.out
  generalize hcs : (List.map (Value.int .u8) l18) = cs1 at *
  go_upto_region 2 with (refine wpList_store_mid rfl 22 (.tmp 5) (.tmp 18) rfl (w.heap.size) 0 cs1.toArray rfl rfl (by simpa [hlenS] using A5.out.all) (by simpa using hiS) (all_oneCell_toArray honeS) ?_)
  clear hlenS honeS hiS HB HG A5 A6
  generalize u1_0.setCells (w.heap.size) 0 cs1 = W1 at *
  subst hcs
  have A5 := A5n
  clear A5n
  have A6 := A6n
  clear A6n
  have HG := HGn
  clear HGn
  have HB := HBn
  clear HBn
  go_wp2_with (first | (refine wpList_load_mid rfl 22 (.tmp 6) rfl q1 0 rfl (List.map (Value.int .u8) b) _ A6.out.rng Tryd.underlying22 rfl (by_cells hb).2.2 ?_))
  refine (edge_any b hb n hn _).mono ?_
  rintro e u2_0 ⟨l21, rfl, hl21, hb2_0⟩
  have hc2_1 : Hid (Below W1.heap.size W1 u2_0) := hb2_0
  clear hb2_0
  replace A5 : Hid (Arr u2_0 (w.heap.size) (List.map (Value.int .u8) l18)) := A5.out.later hc2_1.out
  replace A6 : Hid (Arr u2_0 q1 (List.map (Value.int .u8) b)) := A6.out.later hc2_1.out
  replace HG : Hid (Gp u2_0) := HG.out.later hc2_1.out
  replace HB : Hid (Below w.heap.size w u2_0) := HB.out.trans (Below.mono hc2_1.out HB.out.size)
  clear hc2_1
  obtain ⟨hlenS, honeS, hiS⟩ := by_cells hl21
  have A5n : Hid (Arr (u2_0.setCells q1 0 (List.map (Value.int .u8) l21)) (w.heap.size) (List.map (Value.int .u8) l18)) := ⟨World.rangeAt_setCells_apart A5.out.rng _ _ _ (.inl (by omega)), World.there_setCells A5.out.all _ _ _⟩
  have A6n : Hid (Arr (u2_0.setCells q1 0 (List.map (Value.int .u8) l21)) q1 (List.map (Value.int .u8) l21)) := ⟨World.rangeAt_setCells_same _ _ _ _ (by rw [hlenS]; exact A6.out.all), World.there_setCells A6.out.all _ _ _⟩
  have HGn : Hid (Gp (u2_0.setCells q1 0 (List.map (Value.int .u8) l21))) := World.rangeAt_setCells_apart HG.out _ _ _ (.inl (by omega))
  have HBn : Hid (Below w.heap.size w (u2_0.setCells q1 0 (List.map (Value.int .u8) l21))) := below_setCells _ (by omega) _ _ _ HB.out
  generalize hcs : (List.map (Value.int .u8) l21) = cs2 at *
  go_upto_region 3 with (refine wpList_store_mid rfl 22 (.tmp 6) (.tmp 21) rfl q1 0 cs2.toArray rfl rfl (by simpa [hlenS] using A6.out.all) (by simpa using hiS) (all_oneCell_toArray honeS) ?_)
  clear hlenS honeS hiS HB HG A5 A6
  generalize u2_0.setCells q1 0 cs2 = W2 at *
  subst hcs
  have A5 := A5n
  clear A5n
  have A6 := A6n
  clear A6n
  have HG := HGn
  clear HGn
  have HB := HBn
  clear HBn
  go_wp2_with (first | (refine wpList_load_mid rfl 22 (.tmp 5) rfl (w.heap.size) 0 rfl (List.map (Value.int .u8) l18) _ A5.out.rng Tryd.underlying22 rfl (by_cells hl18).2.2 ?_))
  refine (from_e l18 hl18 _).mono ?_
  rintro e u3_0 ⟨z23, rfl, hz23, Hz23, hb3_0⟩
  have hc3_1 : Hid (Below W2.heap.size W2 u3_0) := hb3_0
  clear hb3_0
  go_upto_region 4 with fail
  have hX : Hid (Below W2.heap.size W2 (u3_0.alloc (.cells #[.int .u64 (e0 z23), .int .u64 (e1 z23), .int .u64 (e2 z23), .int .u64 (e3 z23)] 29))) := hc3_1.out.trans ((bel1 u3_0 _).mono hc3_1.out.size)
  have V11 : Hid (Var (u3_0.alloc (.cells #[.int .u64 (e0 z23), .int .u64 (e1 z23), .int .u64 (e2 z23), .int .u64 (e3 z23)] 29)) (u3_0.heap.size) z23) := var_new u3_0 z23 _
  have hge11 : w.heap.size ≤ u3_0.heap.size := Nat.le_trans HB.out.size hc3_1.out.size
  generalize u3_0.alloc (.cells #[.int .u64 (e0 z23), .int .u64 (e1 z23), .int .u64 (e2 z23), .int .u64 (e3 z23)] 29) = W11 at *
  generalize u3_0.heap.size = b11 at *
  replace A5 : Hid (Arr W11 (w.heap.size) (List.map (Value.int .u8) l18)) := A5.out.later hX.out
  replace A6 : Hid (Arr W11 q1 (List.map (Value.int .u8) l21)) := A6.out.later hX.out
  replace HG : Hid (Gp W11) := HG.out.later hX.out
  replace HB : Hid (Below w.heap.size w W11) := HB.out.trans (Below.mono hX.out HB.out.size)
  clear hX hc3_1
  go_wp2_with (first | (refine wpList_load_mid rfl 22 (.tmp 6) rfl q1 0 rfl (List.map (Value.int .u8) l21) _ A6.out.rng Tryd.underlying22 rfl (by_cells hl21).2.2 ?_))
  refine (from_e l21 hl21 _).mono ?_
  rintro e u4_0 ⟨z25, rfl, hz25, Hz25, hb4_0⟩
  have hc4_1 : Hid (Below W11.heap.size W11 u4_0) := hb4_0
  clear hb4_0
  try clear V11c0 V11c1 V11c2 V11c3
  go_upto_region 5 with fail
  have hX : Hid (Below W11.heap.size W11 (u4_0.alloc (.cells #[.int .u64 (e0 z25), .int .u64 (e1 z25), .int .u64 (e2 z25), .int .u64 (e3 z25)] 29))) := hc4_1.out.trans ((bel1 u4_0 _).mono hc4_1.out.size)
  have V12 : Hid (Var (u4_0.alloc (.cells #[.int .u64 (e0 z25), .int .u64 (e1 z25), .int .u64 (e2 z25), .int .u64 (e3 z25)] 29)) (u4_0.heap.size) z25) := var_new u4_0 z25 _
  have hge12 : w.heap.size ≤ u4_0.heap.size := Nat.le_trans HB.out.size hc4_1.out.size
  have lt12_V11 : b11 < u4_0.heap.size := (V11.out.later hc4_1.out).lt
  generalize u4_0.alloc (.cells #[.int .u64 (e0 z25), .int .u64 (e1 z25), .int .u64 (e2 z25), .int .u64 (e3 z25)] 29) = W12 at *
  generalize u4_0.heap.size = b12 at *
  replace V11 : Hid (Var W12 b11 z23) := V11.out.later hX.out
  replace A5 : Hid (Arr W12 (w.heap.size) (List.map (Value.int .u8) l18)) := A5.out.later hX.out
  replace A6 : Hid (Arr W12 q1 (List.map (Value.int .u8) l21)) := A6.out.later hX.out
  replace HG : Hid (Gp W12) := HG.out.later hX.out
  replace HB : Hid (Below w.heap.size w W12) := HB.out.trans (Below.mono hX.out HB.out.size)
  clear hX hc4_1
  go_wp2_with (first | (refine wpList_load_mid rfl 22 (.tmp 5) rfl (w.heap.size) 0 rfl (List.map (Value.int .u8) l18) _ A5.out.rng Tryd.underlying22 rfl (by_cells hl18).2.2 ?_))
  refine (rfrom_any l18 hl18 _ HG.out).mono ?_
  rintro e u5_0 ⟨z27, rfl, Hz27, hb5_0⟩
  have hc5_1 : Hid (Below W12.heap.size W12 u5_0) := hb5_0
  clear hb5_0
  try clear V11c0 V11c1 V11c2 V11c3
  try clear V12c0 V12c1 V12c2 V12c3
  have hgw13 : W12.heap.size ≤ u5_0.heap.size := hc5_1.out.size
  have hlz13 : z27.length = 16 := by rw [Hz27.out, dg_length]
  obtain ⟨hlenS, honeS, hiS⟩ := no_cells hlz13
  have hth := there_new u5_0 16 #[.int .u64 0, .int .u64 0, .int .u64 0, .int .u64 0, .int .u64 0, .int .u64 0, .int .u64 0, .int .u64 0, .int .u64 0, .int .u64 0, .int .u64 0, .int .u64 0, .int .u64 0, .int .u64 0, .int .u64 0, .int .u64 0] rfl 32
  have N13 : Hid (Wrd ((u5_0.alloc (.cells #[.int .u64 0, .int .u64 0, .int .u64 0, .int .u64 0, .int .u64 0, .int .u64 0, .int .u64 0, .int .u64 0, .int .u64 0, .int .u64 0, .int .u64 0, .int .u64 0, .int .u64 0, .int .u64 0, .int .u64 0, .int .u64 0] 32)).setCells u5_0.heap.size 0 (List.map (Value.int .u64) z27)) (u5_0.heap.size) z27) := wrd_store hth z27 hlz13
  have hX : Hid (Below W12.heap.size W12 ((u5_0.alloc (.cells #[.int .u64 0, .int .u64 0, .int .u64 0, .int .u64 0, .int .u64 0, .int .u64 0, .int .u64 0, .int .u64 0, .int .u64 0, .int .u64 0, .int .u64 0, .int .u64 0, .int .u64 0, .int .u64 0, .int .u64 0, .int .u64 0] 32)).setCells u5_0.heap.size 0 (List.map (Value.int .u64) z27))) := hc5_1.out.trans ((below_setCells _ (Nat.le_refl _) _ _ _ (bel1 _ _)).mono hc5_1.out.size)
  generalize hcs : (List.map (Value.int .u64) z27) = cs5 at *
  go_upto_region 6 with (refine wpList_store_mid rfl 32 (.tmp 13) (.tmp 27) rfl (u5_0.heap.size) 0 cs5.toArray rfl rfl (by simpa [hlenS] using hth) (by simpa using hiS) (all_oneCell_toArray honeS) ?_)
  clear hth hlenS honeS hiS hc5_1
  generalize (u5_0.alloc (.cells #[.int .u64 0, .int .u64 0, .int .u64 0, .int .u64 0, .int .u64 0, .int .u64 0, .int .u64 0, .int .u64 0, .int .u64 0, .int .u64 0, .int .u64 0, .int .u64 0, .int .u64 0, .int .u64 0, .int .u64 0, .int .u64 0] 32)).setCells u5_0.heap.size 0 cs5 = W13 at *
  generalize u5_0.heap.size = b13 at *
  subst hcs
  replace V11 : Hid (Var W13 b11 z23) := V11.out.later hX.out
  replace V12 : Hid (Var W13 b12 z25) := V12.out.later hX.out
  replace A5 : Hid (Arr W13 (w.heap.size) (List.map (Value.int .u8) l18)) := A5.out.later hX.out
  replace A6 : Hid (Arr W13 q1 (List.map (Value.int .u8) l21)) := A6.out.later hX.out
  replace HG : Hid (Gp W13) := HG.out.later hX.out
  replace HB : Hid (Below w.heap.size w W13) := HB.out.trans (Below.mono hX.out HB.out.size)
  clear hX
  go_wp2_with (first | (refine wpList_load_mid rfl 22 (.tmp 6) rfl q1 0 rfl (List.map (Value.int .u8) l21) _ A6.out.rng Tryd.underlying22 rfl (by_cells hl21).2.2 ?_))
  refine (rfrom_any l21 hl21 _ HG.out).mono ?_
  rintro e u6_0 ⟨z29, rfl, Hz29, hb6_0⟩
  have hc6_1 : Hid (Below W13.heap.size W13 u6_0) := hb6_0
  clear hb6_0
  try clear V11c0 V11c1 V11c2 V11c3
  try clear V12c0 V12c1 V12c2 V12c3
  have hgw14 : W13.heap.size ≤ u6_0.heap.size := hc6_1.out.size
  have hlz14 : z29.length = 16 := by rw [Hz29.out, dg_length]
  obtain ⟨hlenS, honeS, hiS⟩ := no_cells hlz14
  have hth := there_new u6_0 16 #[.int .u64 0, .int .u64 0, .int .u64 0, .int .u64 0, .int .u64 0, .int .u64 0, .int .u64 0, .int .u64 0, .int .u64 0, .int .u64 0, .int .u64 0, .int .u64 0, .int .u64 0, .int .u64 0, .int .u64 0, .int .u64 0] rfl 32
  have N14 : Hid (Wrd ((u6_0.alloc (.cells #[.int .u64 0, .int .u64 0, .int .u64 0, .int .u64 0, .int .u64 0, .int .u64 0, .int .u64 0, .int .u64 0, .int .u64 0, .int .u64 0, .int .u64 0, .int .u64 0, .int .u64 0, .int .u64 0, .int .u64 0, .int .u64 0] 32)).setCells u6_0.heap.size 0 (List.map (Value.int .u64) z29)) (u6_0.heap.size) z29) := wrd_store hth z29 hlz14
  have hX : Hid (Below W13.heap.size W13 ((u6_0.alloc (.cells #[.int .u64 0, .int .u64 0, .int .u64 0, .int .u64 0, .int .u64 0, .int .u64 0, .int .u64 0, .int .u64 0, .int .u64 0, .int .u64 0, .int .u64 0, .int .u64 0, .int .u64 0, .int .u64 0, .int .u64 0, .int .u64 0] 32)).setCells u6_0.heap.size 0 (List.map (Value.int .u64) z29))) := hc6_1.out.trans ((below_setCells _ (Nat.le_refl _) _ _ _ (bel1 _ _)).mono hc6_1.out.size)
  generalize hcs : (List.map (Value.int .u64) z29) = cs6 at *
  go_upto_region 7 with (refine wpList_store_mid rfl 32 (.tmp 14) (.tmp 29) rfl (u6_0.heap.size) 0 cs6.toArray rfl rfl (by simpa [hlenS] using hth) (by simpa using hiS) (all_oneCell_toArray honeS) ?_)
  clear hth hlenS honeS hiS hc6_1
  generalize (u6_0.alloc (.cells #[.int .u64 0, .int .u64 0, .int .u64 0, .int .u64 0, .int .u64 0, .int .u64 0, .int .u64 0, .int .u64 0, .int .u64 0, .int .u64 0, .int .u64 0, .int .u64 0, .int .u64 0, .int .u64 0, .int .u64 0, .int .u64 0] 32)).setCells u6_0.heap.size 0 cs6 = W14 at *
  generalize u6_0.heap.size = b14 at *
  subst hcs
  replace V11 : Hid (Var W14 b11 z23) := V11.out.later hX.out
  replace V12 : Hid (Var W14 b12 z25) := V12.out.later hX.out
  replace A5 : Hid (Arr W14 (w.heap.size) (List.map (Value.int .u8) l18)) := A5.out.later hX.out
  replace A6 : Hid (Arr W14 q1 (List.map (Value.int .u8) l21)) := A6.out.later hX.out
  replace N13 : Hid (Wrd W14 b13 z27) := N13.out.later hX.out
  replace HG : Hid (Gp W14) := HG.out.later hX.out
  replace HB : Hid (Below w.heap.size w W14) := HB.out.trans (Below.mono hX.out HB.out.size)
  clear hX
  obtain ⟨hlenS, honeS, hiS⟩ := no_cells (ns_len c)
  have hth := there_new W14 16 #[.int .u64 0, .int .u64 0, .int .u64 0, .int .u64 0, .int .u64 0, .int .u64 0, .int .u64 0, .int .u64 0, .int .u64 0, .int .u64 0, .int .u64 0, .int .u64 0, .int .u64 0, .int .u64 0, .int .u64 0, .int .u64 0] rfl 32
  have N15 : Hid (Wrd ((W14.alloc (.cells #[.int .u64 0, .int .u64 0, .int .u64 0, .int .u64 0, .int .u64 0, .int .u64 0, .int .u64 0, .int .u64 0, .int .u64 0, .int .u64 0, .int .u64 0, .int .u64 0, .int .u64 0, .int .u64 0, .int .u64 0, .int .u64 0] 32)).setCells W14.heap.size 0 (List.map (Value.int .u64) (ns c))) (W14.heap.size) (ns c)) := wrd_store hth (ns c) (ns_len c)
  have hX : Hid (Below W14.heap.size W14 ((W14.alloc (.cells #[.int .u64 0, .int .u64 0, .int .u64 0, .int .u64 0, .int .u64 0, .int .u64 0, .int .u64 0, .int .u64 0, .int .u64 0, .int .u64 0, .int .u64 0, .int .u64 0, .int .u64 0, .int .u64 0, .int .u64 0, .int .u64 0] 32)).setCells W14.heap.size 0 (List.map (Value.int .u64) (ns c)))) := below_setCells _ (Nat.le_refl _) _ _ _ (bel1 _ _)
  obtain ⟨hc0, hc1⟩ := hc
  have hc := And.intro hc0 hc1
  go_upto_region 8 with (refine wpList_store_mid rfl 32 (.tmp 15) (.tmp 36) rfl (W14.heap.size) 0 (List.map (Value.int .u64) (ns c)).toArray rfl rfl (by simpa [hlenS] using hth) (by simpa using hiS) (all_oneCell_toArray honeS) ?_)
  clear hth hlenS honeS hiS
  generalize (W14.alloc (.cells #[.int .u64 0, .int .u64 0, .int .u64 0, .int .u64 0, .int .u64 0, .int .u64 0, .int .u64 0, .int .u64 0, .int .u64 0, .int .u64 0, .int .u64 0, .int .u64 0, .int .u64 0, .int .u64 0, .int .u64 0, .int .u64 0] 32)).setCells W14.heap.size 0 (List.map (Value.int .u64) (ns c)) = W15 at *
  obtain ⟨b15, hs15⟩ : ∃ b, b = W14.heap.size := ⟨_, rfl⟩
  replace V11 : Hid (Var W15 b11 z23) := V11.out.later hX.out
  replace V12 : Hid (Var W15 b12 z25) := V12.out.later hX.out
  replace A5 : Hid (Arr W15 (w.heap.size) (List.map (Value.int .u8) l18)) := A5.out.later hX.out
  replace A6 : Hid (Arr W15 q1 (List.map (Value.int .u8) l21)) := A6.out.later hX.out
  replace N13 : Hid (Wrd W15 b13 z27) := N13.out.later hX.out
  replace N14 : Hid (Wrd W15 b14 z29) := N14.out.later hX.out
  replace HG : Hid (Gp W15) := HG.out.later hX.out
  replace HB : Hid (Below w.heap.size w W15) := HB.out.trans (Below.mono hX.out HB.out.size)
  clear hX
  rw [← hs15] at N15 ⊢
  clear hs15
  have HS15 : Hid (ns c = dg 16 c) := ns_dg c hc
  have hec : El c := ⟨hc.1, by omega⟩
  obtain ⟨V11c0, V11c1, V11c2, V11c3⟩ := V11.out
  have V11u0 : ∀ u, Ext W15 u → u.cell? ⟨b11, 0, none⟩ = some (.int .u64 (e0 z23)) := fun u hu => hu.cell V11c0
  have V11u1 : ∀ u, Ext W15 u → u.cell? ⟨b11, 1, none⟩ = some (.int .u64 (e1 z23)) := fun u hu => hu.cell V11c1
  have V11u2 : ∀ u, Ext W15 u → u.cell? ⟨b11, 2, none⟩ = some (.int .u64 (e2 z23)) := fun u hu => hu.cell V11c2
  have V11u3 : ∀ u, Ext W15 u → u.cell? ⟨b11, 3, none⟩ = some (.int .u64 (e3 z23)) := fun u hu => hu.cell V11c3
  clear V11c0 V11c1 V11c2 V11c3
  obtain ⟨V12c0, V12c1, V12c2, V12c3⟩ := V12.out
  have V12u0 : ∀ u, Ext W15 u → u.cell? ⟨b12, 0, none⟩ = some (.int .u64 (e0 z25)) := fun u hu => hu.cell V12c0
  have V12u1 : ∀ u, Ext W15 u → u.cell? ⟨b12, 1, none⟩ = some (.int .u64 (e1 z25)) := fun u hu => hu.cell V12c1
  have V12u2 : ∀ u, Ext W15 u → u.cell? ⟨b12, 2, none⟩ = some (.int .u64 (e2 z25)) := fun u hu => hu.cell V12c2
  have V12u3 : ∀ u, Ext W15 u → u.cell? ⟨b12, 3, none⟩ = some (.int .u64 (e3 z25)) := fun u hu => hu.cell V12c3
  clear V12c0 V12c1 V12c2 V12c3
  refine wp_region_noPanic ?_
  refine wp_region_held_drew (S := Ext W15) (by kernel_rfl) (Ext.refl _).drew (fun hH => ?_)
  change wpAnyH _ _ _ _ _ _ #[false, false, false, false, false, false, false, false, false, false, false, false, false, false, false, false, false, false, false, false, false, false, false, false, false, false, false, false, false, false, false, false, false, false, false, false, false, false, false, false, false, false, false, false, false, false, false, false, false, false, false, false, false] _ _
  refine wpAnyH_ready (rs := [0]) (by kernel_rfl) (by simp) ?_
  refine AllReadyH.cons (o := ?o0r8) ?h0r8 (fun K hK => ?_) AllReadyH.nil
  case h0r8 => simp only [List.getElem?_toArray]; rfl
  go_simp
  refine (known_any _).mono ?_
  rintro e c8_0 ⟨rfl, hb8_0⟩
  refine hK.out _ _ (hH.trans hb8_0) (fun hH' => ?_)
  clear hK K hH
  have hH := hH'
  clear hH'
  try simp only [List.setIfInBounds_toArray, List.set]
  clear hb8_0
  refine wpAnyH_take (i := 1) (oi := ?o1r8) (v := ?v1r8) ?h1r8 (by kernel_rfl) ?f1r8 ?r1r8 (fun _ _ _ h => h) (Or.inl ⟨?w1r8, ?y1r8⟩) (by assumption) ?t1r8
  case h1r8 => simp only [List.getElem?_toArray]; rfl
  case f1r8 => kernel_rfl
  case r1r8 => kernel_rfl
  case w1r8 => rfl
  case y1r8 => (intro u hu; (go_simp) <;> with_reducible rfl)
  try simp only [Act.put, List.setIfInBounds_toArray, List.set_cons_zero, List.set_cons_succ]
  refine wpAnyH_take (i := 2) (oi := ?o2r8) (v := ?v2r8) ?h2r8 (by kernel_rfl) ?f2r8 ?r2r8 (fun _ _ _ h => h) (Or.inl ⟨?w2r8, ?y2r8⟩) (by assumption) ?t2r8
  case h2r8 => simp only [List.getElem?_toArray]; rfl
  case f2r8 => kernel_rfl
  case r2r8 => kernel_rfl
  case w2r8 => rfl
  case y2r8 => (intro u hu; (go_simp) <;> with_reducible rfl)
  try simp only [Act.put, List.setIfInBounds_toArray, List.set_cons_zero, List.set_cons_succ]
  refine wpAnyH_take (i := 4) (oi := ?o4r8) (v := .agg (List.map (Value.int .u64) z27).toArray) ?h4r8 (by kernel_rfl) ?f4r8 ?r4r8 (fun _ _ _ h => h) ?y4r8 (by assumption) ?t4r8
  case h4r8 => simp only [List.getElem?_toArray]; rfl
  case f4r8 => kernel_rfl
  case r4r8 => kernel_rfl
  case y4r8 => exact yieldsIf_load_mid (by rfl) 32 (.tmp 13) rfl b13 0 rfl (List.map (Value.int .u64) z27) _ (fun u hu => range_later hu N13.out.rng) Tryd.underlying32 rfl (no_cells hlz13).2.2
  try simp only [Act.put, List.setIfInBounds_toArray, List.set_cons_zero, List.set_cons_succ]
  refine wpAnyH_ready (rs := [3]) (by kernel_rfl) (by simp) ?_
  refine AllReadyH.cons (o := ?o3r8) ?h3r8 (fun K hK => ?_) AllReadyH.nil
  case h3r8 => simp only [List.getElem?_toArray]; rfl
  go_simp
  refine (bytes_e z23 hz23 _).mono ?_
  rintro e c8_3 ⟨rfl, hb8_3⟩
  refine hK.out _ _ (hH.trans hb8_3) (fun hH' => ?_)
  clear hK K hH
  have hH := hH'
  clear hH'
  try simp only [List.setIfInBounds_toArray, List.set]
  clear hb8_3
  refine wpAnyH_ready (rs := [5]) (by kernel_rfl) (by simp) ?_
  refine AllReadyH.cons (o := ?o5r8) ?h5r8 (fun K hK => ?_) AllReadyH.nil
  case h5r8 => simp only [List.getElem?_toArray]; rfl
  go_simp
  refine (rbytes_any z27 (num l18) Hz27 _).mono ?_
  rintro e c8_5 ⟨rfl, hb8_5⟩
  refine hK.out _ _ (hH.trans hb8_5) (fun hH' => ?_)
  clear hK K hH
  have hH := hH'
  clear hH'
  try simp only [List.setIfInBounds_toArray, List.set]
  clear hb8_5
  have hq43 : ∀ u, Sem.run Tryd.prog (binOp .eql 22 (.agg (List.map (Value.int .u8) (lay 32 z23)).toArray) (.agg (List.map (Value.int .u8) (lay 32 (num l18))).toArray)) u = .ok (.bool true) u := fun u => eql_same _ _ (lay_by _) (lay_by _) (by rw [Hz23.out]) u
  refine wpAnyH_take (i := 6) (oi := ?o6r8) (v := ?v6r8) ?h6r8 (by kernel_rfl) ?f6r8 ?r6r8 (fun _ _ _ h => h) (Or.inl ⟨?w6r8, ?y6r8⟩) (by assumption) ?t6r8
  case h6r8 => simp only [List.getElem?_toArray]; rfl
  case f6r8 => kernel_rfl
  case r6r8 => kernel_rfl
  case w6r8 => rfl
  case y6r8 => (intro u hu; (go_simp) <;> with_reducible rfl)
  try simp only [Act.put, List.setIfInBounds_toArray, List.set_cons_zero, List.set_cons_succ]
  refine wpAnyH_take (i := 7) (oi := ?o7r8) (v := ?v7r8) ?h7r8 (by kernel_rfl) ?f7r8 ?r7r8 (fun _ _ _ h => h) (Or.inl ⟨?w7r8, ?y7r8⟩) (by assumption) ?t7r8
  case h7r8 => simp only [List.getElem?_toArray]; rfl
  case f7r8 => kernel_rfl
  case r7r8 => kernel_rfl
  case w7r8 => rfl
  case y7r8 => (intro u hu; (go_simp) <;> with_reducible rfl)
  try simp only [Act.put, List.setIfInBounds_toArray, List.set_cons_zero, List.set_cons_succ]
  refine wpAnyH_take (i := 8) (oi := ?o8r8) (v := ?v8r8) ?h8r8 (by kernel_rfl) ?f8r8 ?r8r8 (fun _ _ _ h => h) (Or.inl ⟨?w8r8, ?y8r8⟩) (by assumption) ?t8r8
  case h8r8 => simp only [List.getElem?_toArray]; rfl
  case f8r8 => kernel_rfl
  case r8r8 => kernel_rfl
  case w8r8 => rfl
  case y8r8 => (intro u hu; (go_simp) <;> with_reducible rfl)
  try simp only [Act.put, List.setIfInBounds_toArray, List.set_cons_zero, List.set_cons_succ]
  refine wpAnyH_take (i := 9) (oi := ?o9r8) (v := ?v9r8) ?h9r8 (by kernel_rfl) ?f9r8 ?r9r8 (fun _ _ _ h => h) (Or.inl ⟨?w9r8, ?y9r8⟩) (by assumption) ?t9r8
  case h9r8 => simp only [List.getElem?_toArray]; rfl
  case f9r8 => kernel_rfl
  case r9r8 => kernel_rfl
  case w9r8 => rfl
  case y9r8 => (intro u hu; (go_simp) <;> with_reducible rfl)
  try simp only [Act.put, List.setIfInBounds_toArray, List.set_cons_zero, List.set_cons_succ]
  refine wpAnyH_take (i := 10) (oi := ?o10r8) (v := ?v10r8) ?h10r8 (by kernel_rfl) ?f10r8 ?r10r8 (fun _ _ _ h => h) (Or.inl ⟨?w10r8, ?y10r8⟩) (by assumption) ?t10r8
  case h10r8 => simp only [List.getElem?_toArray]; rfl
  case f10r8 => kernel_rfl
  case r10r8 => kernel_rfl
  case w10r8 => rfl
  case y10r8 => (intro u hu; (go_simp) <;> with_reducible rfl)
  try simp only [Act.put, List.setIfInBounds_toArray, List.set_cons_zero, List.set_cons_succ]
  refine wpAnyH_take (i := 13) (oi := ?o13r8) (v := .agg (List.map (Value.int .u64) z27).toArray) ?h13r8 (by kernel_rfl) ?f13r8 ?r13r8 (fun _ _ _ h => h) ?y13r8 (by assumption) ?t13r8
  case h13r8 => simp only [List.getElem?_toArray]; rfl
  case f13r8 => kernel_rfl
  case r13r8 => kernel_rfl
  case y13r8 => exact yieldsIf_load_mid (by rfl) 32 (.tmp 13) rfl b13 0 rfl (List.map (Value.int .u64) z27) _ (fun u hu => range_later hu N13.out.rng) Tryd.underlying32 rfl (no_cells hlz13).2.2
  try simp only [Act.put, List.setIfInBounds_toArray, List.set_cons_zero, List.set_cons_succ]
  refine wpAnyH_take (i := 14) (oi := ?o14r8) (v := .agg (List.map (Value.int .u64) z29).toArray) ?h14r8 (by kernel_rfl) ?f14r8 ?r14r8 (fun _ _ _ h => h) ?y14r8 (by assumption) ?t14r8
  case h14r8 => simp only [List.getElem?_toArray]; rfl
  case f14r8 => kernel_rfl
  case r14r8 => kernel_rfl
  case y14r8 => exact yieldsIf_load_mid (by rfl) 32 (.tmp 14) rfl b14 0 rfl (List.map (Value.int .u64) z29) _ (fun u hu => range_later hu N14.out.rng) Tryd.underlying32 rfl (no_cells hlz14).2.2
  try simp only [Act.put, List.setIfInBounds_toArray, List.set_cons_zero, List.set_cons_succ]
  refine wpAnyH_ready (rs := [11]) (by kernel_rfl) (by simp) ?_
  refine AllReadyH.cons (o := ?o11r8) ?h11r8 (fun K hK => ?_) AllReadyH.nil
  case h11r8 => simp only [List.getElem?_toArray]; rfl
  go_simp
  refine (add_e z23 z25 hz23 hz25 _).mono ?_
  rintro e c8_11 ⟨z48, rfl, hz48, Hz48, hb8_11⟩
  refine hK.out _ _ (hH.trans hb8_11) (fun hH' => ?_)
  clear hK K hH
  have hH := hH'
  clear hH'
  try simp only [List.setIfInBounds_toArray, List.set]
  clear hb8_11
  refine wpAnyH_ready (rs := [12]) (by kernel_rfl) (by simp) ?_
  refine AllReadyH.cons (o := ?o12r8) ?h12r8 (fun K hK => ?_) AllReadyH.nil
  case h12r8 => simp only [List.getElem?_toArray]; rfl
  go_simp
  refine (bytes_e z48 hz48 _).mono ?_
  rintro e c8_12 ⟨rfl, hb8_12⟩
  refine hK.out _ _ (hH.trans hb8_12) (fun hH' => ?_)
  clear hK K hH
  have hH := hH'
  clear hH'
  try simp only [List.setIfInBounds_toArray, List.set]
  clear hb8_12
  refine wpAnyH_ready (rs := [15]) (by kernel_rfl) (by simp) ?_
  refine AllReadyH.cons (o := ?o15r8) ?h15r8 (fun K hK => ?_) AllReadyH.nil
  case h15r8 => simp only [List.getElem?_toArray]; rfl
  go_simp
  refine (radd_el z27 z29 (num l18) (num l21) (num_el l18) (num_el l21) Hz27 Hz29 _ (Gp.later HG.out hH)).mono ?_
  rintro e c8_15 ⟨z52, rfl, Hz52, hb8_15⟩
  refine hK.out _ _ (hH.trans hb8_15) (fun hH' => ?_)
  clear hK K hH
  have hH := hH'
  clear hH'
  try simp only [List.setIfInBounds_toArray, List.set]
  clear hb8_15
  refine wpAnyH_ready (rs := [16]) (by kernel_rfl) (by simp) ?_
  refine AllReadyH.cons (o := ?o16r8) ?h16r8 (fun K hK => ?_) AllReadyH.nil
  case h16r8 => simp only [List.getElem?_toArray]; rfl
  go_simp
  refine (rbytes_any z52 (((num l18) + (num l21)) % 57896044618658097711785492504343953926634992332820282019728792003956564819949) Hz52 _).mono ?_
  rintro e c8_16 ⟨rfl, hb8_16⟩
  refine hK.out _ _ (hH.trans hb8_16) (fun hH' => ?_)
  clear hK K hH
  have hH := hH'
  clear hH'
  try simp only [List.setIfInBounds_toArray, List.set]
  clear hb8_16
  have hq54 : ∀ u, Sem.run Tryd.prog (binOp .eql 22 (.agg (List.map (Value.int .u8) (lay 32 z48)).toArray) (.agg (List.map (Value.int .u8) (lay 32 (((num l18) + (num l21)) % 57896044618658097711785492504343953926634992332820282019728792003956564819949))).toArray)) u = .ok (.bool true) u := fun u => eql_same _ _ (lay_by _) (lay_by _) (by rw [Hz48.out, Hz23.out, Hz25.out]) u
  refine wpAnyH_take (i := 17) (oi := ?o17r8) (v := ?v17r8) ?h17r8 (by kernel_rfl) ?f17r8 ?r17r8 (fun _ _ _ h => h) (Or.inl ⟨?w17r8, ?y17r8⟩) (by assumption) ?t17r8
  case h17r8 => simp only [List.getElem?_toArray]; rfl
  case f17r8 => kernel_rfl
  case r17r8 => kernel_rfl
  case w17r8 => rfl
  case y17r8 => (intro u hu; (go_simp) <;> with_reducible rfl)
  try simp only [Act.put, List.setIfInBounds_toArray, List.set_cons_zero, List.set_cons_succ]
  refine wpAnyH_take (i := 18) (oi := ?o18r8) (v := ?v18r8) ?h18r8 (by kernel_rfl) ?f18r8 ?r18r8 (fun _ _ _ h => h) (Or.inl ⟨?w18r8, ?y18r8⟩) (by assumption) ?t18r8
  case h18r8 => simp only [List.getElem?_toArray]; rfl
  case f18r8 => kernel_rfl
  case r18r8 => kernel_rfl
  case w18r8 => rfl
  case y18r8 => (intro u hu; (go_simp) <;> with_reducible rfl)
  try simp only [Act.put, List.setIfInBounds_toArray, List.set_cons_zero, List.set_cons_succ]
  refine wpAnyH_take (i := 19) (oi := ?o19r8) (v := ?v19r8) ?h19r8 (by kernel_rfl) ?f19r8 ?r19r8 (fun _ _ _ h => h) (Or.inl ⟨?w19r8, ?y19r8⟩) (by assumption) ?t19r8
  case h19r8 => simp only [List.getElem?_toArray]; rfl
  case f19r8 => kernel_rfl
  case r19r8 => kernel_rfl
  case w19r8 => rfl
  case y19r8 => (intro u hu; (go_simp) <;> with_reducible rfl)
  try simp only [Act.put, List.setIfInBounds_toArray, List.set_cons_zero, List.set_cons_succ]
  refine wpAnyH_take (i := 20) (oi := ?o20r8) (v := ?v20r8) ?h20r8 (by kernel_rfl) ?f20r8 ?r20r8 (fun _ _ _ h => h) (Or.inl ⟨?w20r8, ?y20r8⟩) (by assumption) ?t20r8
  case h20r8 => simp only [List.getElem?_toArray]; rfl
  case f20r8 => kernel_rfl
  case r20r8 => kernel_rfl
  case w20r8 => rfl
  case y20r8 => (intro u hu; (go_simp) <;> with_reducible rfl)
  try simp only [Act.put, List.setIfInBounds_toArray, List.set_cons_zero, List.set_cons_succ]
  refine wpAnyH_take (i := 21) (oi := ?o21r8) (v := ?v21r8) ?h21r8 (by kernel_rfl) ?f21r8 ?r21r8 (fun _ _ _ h => h) (Or.inl ⟨?w21r8, ?y21r8⟩) (by assumption) ?t21r8
  case h21r8 => simp only [List.getElem?_toArray]; rfl
  case f21r8 => kernel_rfl
  case r21r8 => kernel_rfl
  case w21r8 => rfl
  case y21r8 => (intro u hu; (go_simp) <;> with_reducible rfl)
  try simp only [Act.put, List.setIfInBounds_toArray, List.set_cons_zero, List.set_cons_succ]
  refine wpAnyH_take (i := 24) (oi := ?o24r8) (v := .agg (List.map (Value.int .u64) z27).toArray) ?h24r8 (by kernel_rfl) ?f24r8 ?r24r8 (fun _ _ _ h => h) ?y24r8 (by assumption) ?t24r8
  case h24r8 => simp only [List.getElem?_toArray]; rfl
  case f24r8 => kernel_rfl
  case r24r8 => kernel_rfl
  case y24r8 => exact yieldsIf_load_mid (by rfl) 32 (.tmp 13) rfl b13 0 rfl (List.map (Value.int .u64) z27) _ (fun u hu => range_later hu N13.out.rng) Tryd.underlying32 rfl (no_cells hlz13).2.2
  try simp only [Act.put, List.setIfInBounds_toArray, List.set_cons_zero, List.set_cons_succ]
  refine wpAnyH_take (i := 25) (oi := ?o25r8) (v := .agg (List.map (Value.int .u64) z29).toArray) ?h25r8 (by kernel_rfl) ?f25r8 ?r25r8 (fun _ _ _ h => h) ?y25r8 (by assumption) ?t25r8
  case h25r8 => simp only [List.getElem?_toArray]; rfl
  case f25r8 => kernel_rfl
  case r25r8 => kernel_rfl
  case y25r8 => exact yieldsIf_load_mid (by rfl) 32 (.tmp 14) rfl b14 0 rfl (List.map (Value.int .u64) z29) _ (fun u hu => range_later hu N14.out.rng) Tryd.underlying32 rfl (no_cells hlz14).2.2
  try simp only [Act.put, List.setIfInBounds_toArray, List.set_cons_zero, List.set_cons_succ]
  refine wpAnyH_ready (rs := [22]) (by kernel_rfl) (by simp) ?_
  refine AllReadyH.cons (o := ?o22r8) ?h22r8 (fun K hK => ?_) AllReadyH.nil
  case h22r8 => simp only [List.getElem?_toArray]; rfl
  go_simp
  refine (sub_e z23 z25 hz23 hz25 _).mono ?_
  rintro e c8_22 ⟨z59, rfl, hz59, Hz59, hb8_22⟩
  refine hK.out _ _ (hH.trans hb8_22) (fun hH' => ?_)
  clear hK K hH
  have hH := hH'
  clear hH'
  try simp only [List.setIfInBounds_toArray, List.set]
  clear hb8_22
  refine wpAnyH_ready (rs := [23]) (by kernel_rfl) (by simp) ?_
  refine AllReadyH.cons (o := ?o23r8) ?h23r8 (fun K hK => ?_) AllReadyH.nil
  case h23r8 => simp only [List.getElem?_toArray]; rfl
  go_simp
  refine (bytes_e z59 hz59 _).mono ?_
  rintro e c8_23 ⟨rfl, hb8_23⟩
  refine hK.out _ _ (hH.trans hb8_23) (fun hH' => ?_)
  clear hK K hH
  have hH := hH'
  clear hH'
  try simp only [List.setIfInBounds_toArray, List.set]
  clear hb8_23
  refine wpAnyH_ready (rs := [26]) (by kernel_rfl) (by simp) ?_
  refine AllReadyH.cons (o := ?o26r8) ?h26r8 (fun K hK => ?_) AllReadyH.nil
  case h26r8 => simp only [List.getElem?_toArray]; rfl
  go_simp
  refine (rsub_el z27 z29 (num l18) (num l21) (num_el l18) (num_el l21) Hz27 Hz29 _ (Gp.later HG.out hH)).mono ?_
  rintro e c8_26 ⟨z63, rfl, Hz63, hb8_26⟩
  refine hK.out _ _ (hH.trans hb8_26) (fun hH' => ?_)
  clear hK K hH
  have hH := hH'
  clear hH'
  try simp only [List.setIfInBounds_toArray, List.set]
  clear hb8_26
  refine wpAnyH_ready (rs := [27]) (by kernel_rfl) (by simp) ?_
  refine AllReadyH.cons (o := ?o27r8) ?h27r8 (fun K hK => ?_) AllReadyH.nil
  case h27r8 => simp only [List.getElem?_toArray]; rfl
  go_simp
  refine (rbytes_any z63 (((num l18) - (num l21)) % 57896044618658097711785492504343953926634992332820282019728792003956564819949) Hz63 _).mono ?_
  rintro e c8_27 ⟨rfl, hb8_27⟩
  refine hK.out _ _ (hH.trans hb8_27) (fun hH' => ?_)
  clear hK K hH
  have hH := hH'
  clear hH'
  try simp only [List.setIfInBounds_toArray, List.set]
  clear hb8_27
  have hq65 : ∀ u, Sem.run Tryd.prog (binOp .eql 22 (.agg (List.map (Value.int .u8) (lay 32 z59)).toArray) (.agg (List.map (Value.int .u8) (lay 32 (((num l18) - (num l21)) % 57896044618658097711785492504343953926634992332820282019728792003956564819949))).toArray)) u = .ok (.bool true) u := fun u => eql_same _ _ (lay_by _) (lay_by _) (by rw [Hz59.out, Hz23.out, Hz25.out]) u
  refine wpAnyH_take (i := 28) (oi := ?o28r8) (v := ?v28r8) ?h28r8 (by kernel_rfl) ?f28r8 ?r28r8 (fun _ _ _ h => h) (Or.inl ⟨?w28r8, ?y28r8⟩) (by assumption) ?t28r8
  case h28r8 => simp only [List.getElem?_toArray]; rfl
  case f28r8 => kernel_rfl
  case r28r8 => kernel_rfl
  case w28r8 => rfl
  case y28r8 => (intro u hu; (go_simp) <;> with_reducible rfl)
  try simp only [Act.put, List.setIfInBounds_toArray, List.set_cons_zero, List.set_cons_succ]
  refine wpAnyH_take (i := 29) (oi := ?o29r8) (v := ?v29r8) ?h29r8 (by kernel_rfl) ?f29r8 ?r29r8 (fun _ _ _ h => h) (Or.inl ⟨?w29r8, ?y29r8⟩) (by assumption) ?t29r8
  case h29r8 => simp only [List.getElem?_toArray]; rfl
  case f29r8 => kernel_rfl
  case r29r8 => kernel_rfl
  case w29r8 => rfl
  case y29r8 => (intro u hu; (go_simp) <;> with_reducible rfl)
  try simp only [Act.put, List.setIfInBounds_toArray, List.set_cons_zero, List.set_cons_succ]
  refine wpAnyH_take (i := 30) (oi := ?o30r8) (v := ?v30r8) ?h30r8 (by kernel_rfl) ?f30r8 ?r30r8 (fun _ _ _ h => h) (Or.inl ⟨?w30r8, ?y30r8⟩) (by assumption) ?t30r8
  case h30r8 => simp only [List.getElem?_toArray]; rfl
  case f30r8 => kernel_rfl
  case r30r8 => kernel_rfl
  case w30r8 => rfl
  case y30r8 => (intro u hu; (go_simp) <;> with_reducible rfl)
  try simp only [Act.put, List.setIfInBounds_toArray, List.set_cons_zero, List.set_cons_succ]
  refine wpAnyH_take (i := 31) (oi := ?o31r8) (v := ?v31r8) ?h31r8 (by kernel_rfl) ?f31r8 ?r31r8 (fun _ _ _ h => h) (Or.inl ⟨?w31r8, ?y31r8⟩) (by assumption) ?t31r8
  case h31r8 => simp only [List.getElem?_toArray]; rfl
  case f31r8 => kernel_rfl
  case r31r8 => kernel_rfl
  case w31r8 => rfl
  case y31r8 => (intro u hu; (go_simp) <;> with_reducible rfl)
  try simp only [Act.put, List.setIfInBounds_toArray, List.set_cons_zero, List.set_cons_succ]
  refine wpAnyH_take (i := 32) (oi := ?o32r8) (v := ?v32r8) ?h32r8 (by kernel_rfl) ?f32r8 ?r32r8 (fun _ _ _ h => h) (Or.inl ⟨?w32r8, ?y32r8⟩) (by assumption) ?t32r8
  case h32r8 => simp only [List.getElem?_toArray]; rfl
  case f32r8 => kernel_rfl
  case r32r8 => kernel_rfl
  case w32r8 => rfl
  case y32r8 => (intro u hu; (go_simp) <;> with_reducible rfl)
  try simp only [Act.put, List.setIfInBounds_toArray, List.set_cons_zero, List.set_cons_succ]
  refine wpAnyH_take (i := 35) (oi := ?o35r8) (v := .agg (List.map (Value.int .u64) z27).toArray) ?h35r8 (by kernel_rfl) ?f35r8 ?r35r8 (fun _ _ _ h => h) ?y35r8 (by assumption) ?t35r8
  case h35r8 => simp only [List.getElem?_toArray]; rfl
  case f35r8 => kernel_rfl
  case r35r8 => kernel_rfl
  case y35r8 => exact yieldsIf_load_mid (by rfl) 32 (.tmp 13) rfl b13 0 rfl (List.map (Value.int .u64) z27) _ (fun u hu => range_later hu N13.out.rng) Tryd.underlying32 rfl (no_cells hlz13).2.2
  try simp only [Act.put, List.setIfInBounds_toArray, List.set_cons_zero, List.set_cons_succ]
  refine wpAnyH_take (i := 36) (oi := ?o36r8) (v := .agg (List.map (Value.int .u64) (ns c)).toArray) ?h36r8 (by kernel_rfl) ?f36r8 ?r36r8 (fun _ _ _ h => h) ?y36r8 (by assumption) ?t36r8
  case h36r8 => simp only [List.getElem?_toArray]; rfl
  case f36r8 => kernel_rfl
  case r36r8 => kernel_rfl
  case y36r8 => exact yieldsIf_load_mid (by rfl) 32 (.tmp 15) rfl b15 0 rfl (List.map (Value.int .u64) (ns c)) _ (fun u hu => range_later hu N15.out.rng) Tryd.underlying32 rfl (no_cells (ns_len c)).2.2
  try simp only [Act.put, List.setIfInBounds_toArray, List.set_cons_zero, List.set_cons_succ]
  refine wpAnyH_ready (rs := [33]) (by kernel_rfl) (by simp) ?_
  refine AllReadyH.cons (o := ?o33r8) ?h33r8 (fun K hK => ?_) AllReadyH.nil
  case h33r8 => simp only [List.getElem?_toArray]; rfl
  go_simp
  refine (small_e z23 c hz23 hc _).mono ?_
  rintro e c8_33 ⟨z70, rfl, hz70, Hz70, hb8_33⟩
  refine hK.out _ _ (hH.trans hb8_33) (fun hH' => ?_)
  clear hK K hH
  have hH := hH'
  clear hH'
  try simp only [List.setIfInBounds_toArray, List.set]
  clear hb8_33
  refine wpAnyH_ready (rs := [34]) (by kernel_rfl) (by simp) ?_
  refine AllReadyH.cons (o := ?o34r8) ?h34r8 (fun K hK => ?_) AllReadyH.nil
  case h34r8 => simp only [List.getElem?_toArray]; rfl
  go_simp
  refine (bytes_e z70 hz70 _).mono ?_
  rintro e c8_34 ⟨rfl, hb8_34⟩
  refine hK.out _ _ (hH.trans hb8_34) (fun hH' => ?_)
  clear hK K hH
  have hH := hH'
  clear hH'
  try simp only [List.setIfInBounds_toArray, List.set]
  clear hb8_34
  refine wpAnyH_ready (rs := [37]) (by kernel_rfl) (by simp) ?_
  refine AllReadyH.cons (o := ?o37r8) ?h37r8 (fun K hK => ?_) AllReadyH.nil
  case h37r8 => simp only [List.getElem?_toArray]; rfl
  go_simp
  refine (rmul_el z27 (ns c) (num l18) c (num_el l18) hec Hz27 HS15 _ (Gp.later HG.out hH)).mono ?_
  rintro e c8_37 ⟨z74, rfl, Hz74, hb8_37⟩
  refine hK.out _ _ (hH.trans hb8_37) (fun hH' => ?_)
  clear hK K hH
  have hH := hH'
  clear hH'
  try simp only [List.setIfInBounds_toArray, List.set]
  clear hb8_37
  refine wpAnyH_ready (rs := [38]) (by kernel_rfl) (by simp) ?_
  refine AllReadyH.cons (o := ?o38r8) ?h38r8 (fun K hK => ?_) AllReadyH.nil
  case h38r8 => simp only [List.getElem?_toArray]; rfl
  go_simp
  refine (rbytes_any z74 ((num l18) * c % 57896044618658097711785492504343953926634992332820282019728792003956564819949) Hz74 _).mono ?_
  rintro e c8_38 ⟨rfl, hb8_38⟩
  refine hK.out _ _ (hH.trans hb8_38) (fun hH' => ?_)
  clear hK K hH
  have hH := hH'
  clear hH'
  try simp only [List.setIfInBounds_toArray, List.set]
  clear hb8_38
  have hq76 : ∀ u, Sem.run Tryd.prog (binOp .eql 22 (.agg (List.map (Value.int .u8) (lay 32 z70)).toArray) (.agg (List.map (Value.int .u8) (lay 32 ((num l18) * c % 57896044618658097711785492504343953926634992332820282019728792003956564819949))).toArray)) u = .ok (.bool true) u := fun u => eql_same _ _ (lay_by _) (lay_by _) (by rw [Hz70.out, Hz23.out]) u
  refine wpAnyH_take (i := 39) (oi := ?o39r8) (v := ?v39r8) ?h39r8 (by kernel_rfl) ?f39r8 ?r39r8 (fun _ _ _ h => h) (Or.inl ⟨?w39r8, ?y39r8⟩) (by assumption) ?t39r8
  case h39r8 => simp only [List.getElem?_toArray]; rfl
  case f39r8 => kernel_rfl
  case r39r8 => kernel_rfl
  case w39r8 => rfl
  case y39r8 => (intro u hu; (go_simp) <;> with_reducible rfl)
  try simp only [Act.put, List.setIfInBounds_toArray, List.set_cons_zero, List.set_cons_succ]
  refine wpAnyH_take (i := 40) (oi := ?o40r8) (v := ?v40r8) ?h40r8 (by kernel_rfl) ?f40r8 ?r40r8 (fun _ _ _ h => h) (Or.inl ⟨?w40r8, ?y40r8⟩) (by assumption) ?t40r8
  case h40r8 => simp only [List.getElem?_toArray]; rfl
  case f40r8 => kernel_rfl
  case r40r8 => kernel_rfl
  case w40r8 => rfl
  case y40r8 => (intro u hu; (go_simp) <;> with_reducible rfl)
  try simp only [Act.put, List.setIfInBounds_toArray, List.set_cons_zero, List.set_cons_succ]
  refine wpAnyH_take (i := 41) (oi := ?o41r8) (v := ?v41r8) ?h41r8 (by kernel_rfl) ?f41r8 ?r41r8 (fun _ _ _ h => h) (Or.inl ⟨?w41r8, ?y41r8⟩) (by assumption) ?t41r8
  case h41r8 => simp only [List.getElem?_toArray]; rfl
  case f41r8 => kernel_rfl
  case r41r8 => kernel_rfl
  case w41r8 => rfl
  case y41r8 => (intro u hu; (go_simp) <;> with_reducible rfl)
  try simp only [Act.put, List.setIfInBounds_toArray, List.set_cons_zero, List.set_cons_succ]
  refine wpAnyH_take (i := 42) (oi := ?o42r8) (v := ?v42r8) ?h42r8 (by kernel_rfl) ?f42r8 ?r42r8 (fun _ _ _ h => h) (Or.inl ⟨?w42r8, ?y42r8⟩) (by assumption) ?t42r8
  case h42r8 => simp only [List.getElem?_toArray]; rfl
  case f42r8 => kernel_rfl
  case r42r8 => kernel_rfl
  case w42r8 => rfl
  case y42r8 => (intro u hu; (go_simp) <;> with_reducible rfl)
  try simp only [Act.put, List.setIfInBounds_toArray, List.set_cons_zero, List.set_cons_succ]
  refine wpAnyH_take (i := 43) (oi := ?o43r8) (v := ?v43r8) ?h43r8 (by kernel_rfl) ?f43r8 ?r43r8 (fun _ _ _ h => h) (Or.inl ⟨?w43r8, ?y43r8⟩) (by assumption) ?t43r8
  case h43r8 => simp only [List.getElem?_toArray]; rfl
  case f43r8 => kernel_rfl
  case r43r8 => kernel_rfl
  case w43r8 => rfl
  case y43r8 => (intro u hu; (go_simp) <;> with_reducible rfl)
  try simp only [Act.put, List.setIfInBounds_toArray, List.set_cons_zero, List.set_cons_succ]
  refine wpAnyH_take (i := 45) (oi := ?o45r8) (v := .agg (List.map (Value.int .u64) z27).toArray) ?h45r8 (by kernel_rfl) ?f45r8 ?r45r8 (fun _ _ _ h => h) ?y45r8 (by assumption) ?t45r8
  case h45r8 => simp only [List.getElem?_toArray]; rfl
  case f45r8 => kernel_rfl
  case r45r8 => kernel_rfl
  case y45r8 => exact yieldsIf_load_mid (by rfl) 32 (.tmp 13) rfl b13 0 rfl (List.map (Value.int .u64) z27) _ (fun u hu => range_later hu N13.out.rng) Tryd.underlying32 rfl (no_cells hlz13).2.2
  try simp only [Act.put, List.setIfInBounds_toArray, List.set_cons_zero, List.set_cons_succ]
  refine wpAnyH_take (i := 47) (oi := ?o47r8) (v := .agg (List.map (Value.int .u64) z29).toArray) ?h47r8 (by kernel_rfl) ?f47r8 ?r47r8 (fun _ _ _ h => h) ?y47r8 (by assumption) ?t47r8
  case h47r8 => simp only [List.getElem?_toArray]; rfl
  case f47r8 => kernel_rfl
  case r47r8 => kernel_rfl
  case y47r8 => exact yieldsIf_load_mid (by rfl) 32 (.tmp 14) rfl b14 0 rfl (List.map (Value.int .u64) z29) _ (fun u hu => range_later hu N14.out.rng) Tryd.underlying32 rfl (no_cells hlz14).2.2
  try simp only [Act.put, List.setIfInBounds_toArray, List.set_cons_zero, List.set_cons_succ]
  refine wpAnyH_ready (rs := [44]) (by kernel_rfl) (by simp) ?_
  refine AllReadyH.cons (o := ?o44r8) ?h44r8 (fun K hK => ?_) AllReadyH.nil
  case h44r8 => simp only [List.getElem?_toArray]; rfl
  go_simp
  refine (equal_e z23 z25 hz23 hz25 _).mono ?_
  rintro e c8_44 ⟨rfl, hb8_44⟩
  refine hK.out _ _ (hH.trans hb8_44) (fun hH' => ?_)
  clear hK K hH
  have hH := hH'
  clear hH'
  try simp only [List.setIfInBounds_toArray, List.set]
  clear hb8_44
  refine wpAnyH_ready (rs := [46]) (by kernel_rfl) (by simp) ?_
  refine AllReadyH.cons (o := ?o46r8) ?h46r8 (fun K hK => ?_) AllReadyH.nil
  case h46r8 => simp only [List.getElem?_toArray]; rfl
  go_simp
  refine (rbytes_any z27 (num l18) Hz27 _).mono ?_
  rintro e c8_46 ⟨rfl, hb8_46⟩
  refine hK.out _ _ (hH.trans hb8_46) (fun hH' => ?_)
  clear hK K hH
  have hH := hH'
  clear hH'
  try simp only [List.setIfInBounds_toArray, List.set]
  clear hb8_46
  refine wpAnyH_ready (rs := [48]) (by kernel_rfl) (by simp) ?_
  refine AllReadyH.cons (o := ?o48r8) ?h48r8 (fun K hK => ?_) AllReadyH.nil
  case h48r8 => simp only [List.getElem?_toArray]; rfl
  go_simp
  refine (rbytes_any z29 (num l21) Hz29 _).mono ?_
  rintro e c8_48 ⟨rfl, hb8_48⟩
  refine hK.out _ _ (hH.trans hb8_48) (fun hH' => ?_)
  clear hK K hH
  have hH := hH'
  clear hH'
  try simp only [List.setIfInBounds_toArray, List.set]
  clear hb8_48
  have hq86 : ∀ u, Sem.run Tryd.prog (binOp .eql 22 (.agg (List.map (Value.int .u8) (lay 32 (num l18))).toArray) (.agg (List.map (Value.int .u8) (lay 32 (num l21))).toArray)) u = .ok (.bool (alike (lay 32 (num l18)) (lay 32 (num l21)))) u := fun u => eql_arr _ _ (lay_by _) (lay_by _) u
  refine wpAnyH_take (i := 49) (oi := ?o49r8) (v := ?v49r8) ?h49r8 (by kernel_rfl) ?f49r8 ?r49r8 (fun _ _ _ h => h) (Or.inl ⟨?w49r8, ?y49r8⟩) (by assumption) ?t49r8
  case h49r8 => simp only [List.getElem?_toArray]; rfl
  case f49r8 => kernel_rfl
  case r49r8 => kernel_rfl
  case w49r8 => rfl
  case y49r8 => (intro u hu; (go_simp) <;> with_reducible rfl)
  try simp only [Act.put, List.setIfInBounds_toArray, List.set_cons_zero, List.set_cons_succ]
  have hq87 : ∀ u, Sem.run Tryd.prog (binOp .eql 4 (.bool (same z23 z25)) (.bool (alike (lay 32 (num l18)) (lay 32 (num l21))))) u = .ok (.bool true) u := fun u => by
    rw [run_eql_bool _ _ _ _ Tryd.underlying4, Hz23.out, Hz25.out, same_alike _ _ (num_el _) (num_el _), beq_self_eq_true]
  refine wpAnyH_take (i := 50) (oi := ?o50r8) (v := ?v50r8) ?h50r8 (by kernel_rfl) ?f50r8 ?r50r8 (fun _ _ _ h => h) (Or.inl ⟨?w50r8, ?y50r8⟩) (by assumption) ?t50r8
  case h50r8 => simp only [List.getElem?_toArray]; rfl
  case f50r8 => kernel_rfl
  case r50r8 => kernel_rfl
  case w50r8 => rfl
  case y50r8 => (intro u hu; (go_simp) <;> with_reducible rfl)
  try simp only [Act.put, List.setIfInBounds_toArray, List.set_cons_zero, List.set_cons_succ]
  refine wpAnyH_take (i := 51) (oi := ?o51r8) (v := ?v51r8) ?h51r8 (by kernel_rfl) ?f51r8 ?r51r8 (fun _ _ _ h => h) (Or.inl ⟨?w51r8, ?y51r8⟩) (by assumption) ?t51r8
  case h51r8 => simp only [List.getElem?_toArray]; rfl
  case f51r8 => kernel_rfl
  case r51r8 => kernel_rfl
  case w51r8 => rfl
  case y51r8 => (intro u hu; (go_simp) <;> with_reducible rfl)
  try simp only [Act.put, List.setIfInBounds_toArray, List.set_cons_zero, List.set_cons_succ]
  refine wpAnyH_take (i := 52) (oi := ?o52r8) (v := ?v52r8) ?h52r8 (by kernel_rfl) ?f52r8 ?r52r8 (fun _ _ _ h => h) (Or.inl ⟨?w52r8, ?y52r8⟩) (by assumption) ?t52r8
  case h52r8 => simp only [List.getElem?_toArray]; rfl
  case f52r8 => kernel_rfl
  case r52r8 => kernel_rfl
  case w52r8 => rfl
  case y52r8 => (intro u hu; (go_simp) <;> with_reducible rfl)
  try simp only [Act.put, List.setIfInBounds_toArray, List.set_cons_zero, List.set_cons_succ]
  refine wpAnyH_done (by kernel_rfl) ?_ _
  refine NoPanic.normal ?_
  go_wp2
  go_ret
  exact ⟨rfl, HB.out.trans (Below.mono hH HB.out.size)⟩
end Go.Proofs.YtdjcjflcdjdkbaaDoor
