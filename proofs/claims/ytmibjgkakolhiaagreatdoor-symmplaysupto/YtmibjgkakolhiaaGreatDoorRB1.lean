/-
 What the reference's turn and mix do: the same G. No statement of the seat is proved here.
-/
import Derived.Test.YtmibjgkakolhiaaGreatDoorPk1
import Derived.Test.YtmibjgkakolhiaaGreatDoorPk4
namespace Go.Proofs.YtmibjgkakolhiaaGreatDoor
open Go.RowKit

set_option maxRecDepth 8000 in
set_option maxHeartbeats 400000 in
theorem rturn7_16_c (x : Int) (hx : W7 x) (w : World) :
  Calls Tryz.prog 53 #[.int .u32 x, .int .u64 16] w fun e w' => ∃ z, e = .returned (.int .u32 z) ∧ Hid (z = rr7 x 65536 65536) ∧ W7 z ∧ Below w.heap.size w w' := by
 have HZ : Hid (W7 (rr7 x 65536 65536)) := rr7_16 hx
 rw [← rr7_16_or' hx] at HZ
 have HE : Hid _ := rr7_16_or' hx
 obtain ⟨x0, x1⟩ := hx
 go_enter Tryz.func53, Tryz.ntmps53
 go_wp2
 go_ret
 exact ⟨_, rfl, HE, HZ.out, Below.refl _ _⟩

set_option maxRecDepth 8000 in
set_option maxHeartbeats 400000 in
theorem rturn7_12_c (x : Int) (hx : W7 x) (w : World) :
  Calls Tryz.prog 53 #[.int .u32 x, .int .u64 20] w fun e w' => ∃ z, e = .returned (.int .u32 z) ∧ Hid (z = rr7 x 4096 1048576) ∧ W7 z ∧ Below w.heap.size w w' := by
 have HZ : Hid (W7 (rr7 x 4096 1048576)) := rr7_12 hx
 rw [← rr7_12_or' hx] at HZ
 have HE : Hid _ := rr7_12_or' hx
 obtain ⟨x0, x1⟩ := hx
 go_enter Tryz.func53, Tryz.ntmps53
 go_wp2
 go_ret
 exact ⟨_, rfl, HE, HZ.out, Below.refl _ _⟩

set_option maxRecDepth 8000 in
set_option maxHeartbeats 400000 in
theorem rturn7_8_c (x : Int) (hx : W7 x) (w : World) :
  Calls Tryz.prog 53 #[.int .u32 x, .int .u64 24] w fun e w' => ∃ z, e = .returned (.int .u32 z) ∧ Hid (z = rr7 x 256 16777216) ∧ W7 z ∧ Below w.heap.size w w' := by
 have HZ : Hid (W7 (rr7 x 256 16777216)) := rr7_8 hx
 rw [← rr7_8_or' hx] at HZ
 have HE : Hid _ := rr7_8_or' hx
 obtain ⟨x0, x1⟩ := hx
 go_enter Tryz.func53, Tryz.ntmps53
 go_wp2
 go_ret
 exact ⟨_, rfl, HE, HZ.out, Below.refl _ _⟩

set_option maxRecDepth 8000 in
set_option maxHeartbeats 400000 in
theorem rturn7_7_c (x : Int) (hx : W7 x) (w : World) :
  Calls Tryz.prog 53 #[.int .u32 x, .int .u64 25] w fun e w' => ∃ z, e = .returned (.int .u32 z) ∧ Hid (z = rr7 x 128 33554432) ∧ W7 z ∧ Below w.heap.size w w' := by
 have HZ : Hid (W7 (rr7 x 128 33554432)) := rr7_7 hx
 rw [← rr7_7_or' hx] at HZ
 have HE : Hid _ := rr7_7_or' hx
 obtain ⟨x0, x1⟩ := hx
 go_enter Tryz.func53, Tryz.ntmps53
 go_wp2
 go_ret
 exact ⟨_, rfl, HE, HZ.out, Below.refl _ _⟩

set_option maxRecDepth 8000 in
theorem Ext.up7 {a b c : World} (h : Ext a b) (k : Ext b c) : Ext a c := Ext.trans h k
set_option maxRecDepth 8000 in
theorem ad7_two (a b x : Int) : (a + b + x) % 4294967296 = ad7 (ad7 a b) x := by
 unfold ad7
 omega
set_option maxRecDepth 8000 in
set_option maxHeartbeats 4000000 in
theorem rmix_c (bv : Nat) (L : List Int) (i j k l : Nat) (x y : Int) (w : World) (hv : Ar w bv 16 (List.map (Value.int .u32) L)) (hL : Wn 16 L) (hi : i < 16) (hj : j < 16) (hk : k < 16) (hl : l < 16) (hx : W7 x) (hy : W7 y) :
  Calls Tryz.prog 37 #[.pointer (some ⟨bv, 0, none⟩), .agg #[.int .i64 (i : Int), .int .i64 (j : Int), .int .i64 (k : Int), .int .i64 (l : Int)], .int .u32 x, .int .u32 y] w fun e w' => e = .returned (.tuple #[]) ∧ Hid (Ar w' bv 16 (List.map (Value.int .u32) (bg7 L i j k l x y))) ∧ ExtB bv w w' := by
 have HW : Hid (Wn 16 L) := hL
 have hb0 : bv < w.heap.size := hv.lt (by decide)
 have gi : (i : Int) < 16 := by omega
 have gj : (j : Int) < 16 := by omega
 have gk : (k : Int) < 16 := by omega
 have gl : (l : Int) < 16 := by omega
 obtain ⟨x0, x9⟩ := hx
 obtain ⟨y0, y9⟩ := hy
 go_enter Tryz.func37, Tryz.ntmps37
 go_upto_region 1 with fail
 have HV : Hid (Ar (w.alloc (.cells #[.int .i64 (i : Int), .int .i64 (j : Int), .int .i64 (k : Int), .int .i64 (l : Int)] 70)) bv 16 (List.map (Value.int .u32) L)) := hv.later (bel1 _ _)
 have HR : Hid (Ar (w.alloc (.cells #[.int .i64 (i : Int), .int .i64 (j : Int), .int .i64 (k : Int), .int .i64 (l : Int)] 70)) w.heap.size 4 [.int .i64 (i : Int), .int .i64 (j : Int), .int .i64 (k : Int), .int .i64 (l : Int)]) := ar_box w _ 4 rfl _
 have HE : Hid (ExtB bv w (w.alloc (.cells #[.int .i64 (i : Int), .int .i64 (j : Int), .int .i64 (k : Int), .int .i64 (l : Int)] 70))) := (ExtB.refl _ _).alloc _
 obtain ⟨W, hW⟩ : ∃ W, W = w.alloc (.cells #[.int .i64 (i : Int), .int .i64 (j : Int), .int .i64 (k : Int), .int .i64 (l : Int)] 70) := ⟨_, rfl⟩
 obtain ⟨q, hq⟩ : ∃ q, q = w.heap.size := ⟨_, rfl⟩
 rw [← hW] at HV HR HE ⊢
 rw [← hq] at HR hb0 ⊢
 have hne : q ≠ bv := by omega
 clear hW hq hv hL
 obtain ⟨a, ca, fa, ⟨a0, a9⟩, HA⟩ := wn_word HV.out HW.out i hi
 obtain ⟨b, cb, fb, ⟨b0, b9⟩, HB⟩ := wn_word HV.out HW.out j hj
 obtain ⟨c, cc, fc, ⟨c0, c9⟩, HC⟩ := wn_word HV.out HW.out k hk
 obtain ⟨d, cd, fd, ⟨d0, d9⟩, HD⟩ := wn_word HV.out HW.out l hl
 have ri : W.cell? ⟨q, 0, none⟩ = some (.int .i64 (i : Int)) := (HR.out.cell 0 (by decide)).1
 have rj : W.cell? ⟨q, 1, none⟩ = some (.int .i64 (j : Int)) := (HR.out.cell 1 (by decide)).1
 have rk : W.cell? ⟨q, 2, none⟩ = some (.int .i64 (k : Int)) := (HR.out.cell 2 (by decide)).1
 have rl : W.cell? ⟨q, 3, none⟩ = some (.int .i64 (l : Int)) := (HR.out.cell 3 (by decide)).1
 have ua : ∀ u, Ext W u → u.cell? ⟨bv, i, none⟩ = some (.int .u32 a) := fun u hu => hu.cell ca
 have ub : ∀ u, Ext W u → u.cell? ⟨bv, j, none⟩ = some (.int .u32 b) := fun u hu => hu.cell cb
 have uc : ∀ u, Ext W u → u.cell? ⟨bv, k, none⟩ = some (.int .u32 c) := fun u hu => hu.cell cc
 have ud : ∀ u, Ext W u → u.cell? ⟨bv, l, none⟩ = some (.int .u32 d) := fun u hu => hu.cell cd
 have vi : ∀ u, ExtB bv W u → u.cell? ⟨q, 0, none⟩ = some (.int .i64 (i : Int)) := fun u hu => hu.cell hne ri
 have vj : ∀ u, ExtB bv W u → u.cell? ⟨q, 1, none⟩ = some (.int .i64 (j : Int)) := fun u hu => hu.cell hne rj
 have vk : ∀ u, ExtB bv W u → u.cell? ⟨q, 2, none⟩ = some (.int .i64 (k : Int)) := fun u hu => hu.cell hne rk
 have vl : ∀ u, ExtB bv W u → u.cell? ⟨q, 3, none⟩ = some (.int .i64 (l : Int)) := fun u hu => hu.cell hne rl
 have hwl := HV.out.lt (by decide)
 clear HR ri rj rk rl
 obtain ⟨s1, hs1⟩ : ∃ z, IntKind.u32.wrap (a + b) = z := ⟨_, rfl⟩
 obtain ⟨a1, ha1⟩ : ∃ z, IntKind.u32.wrap (s1 + x) = z := ⟨_, rfl⟩
 have HA1 : Hid (a1 = ad7 (ad7 a b) x) := by unfold Hid; rw [← ha1, ← hs1, IntKind.wrap_u32', IntKind.wrap_u32']; rfl
 have hwa1 : W7 a1 := by rw [HA1.out]; exact ad7_w _ _
 obtain ⟨a10, a19⟩ := hwa1
 refine wp_region_noPanic ?_
 refine wp_region_held_drew (S := Ext W) (by kernel_rfl) (Ext.refl _).drew (fun hH => ?_)
 change wpAnyH _ _ _ _ _ _ #[false, false, false, false, false, false, false, false, false, false, false, false, false, false, false, false] _ _
 refine tk 0 ?_
 try simp only [Act.put, List.setIfInBounds_toArray, List.set_cons_zero, List.set_cons_succ]
 refine tk 1 ?_
 try simp only [Act.put, List.setIfInBounds_toArray, List.set_cons_zero, List.set_cons_succ]
 refine tk 2 ?_ (hy := by (intro u hu; (have hx := vi u (Ext.extB hu bv); go_simp) <;> with_reducible rfl))
 try simp only [Act.put, List.setIfInBounds_toArray, List.set_cons_zero, List.set_cons_succ]
 refine tk 3 ?_
 try simp only [Act.put, List.setIfInBounds_toArray, List.set_cons_zero, List.set_cons_succ]
 refine tk 4 ?_
 try simp only [Act.put, List.setIfInBounds_toArray, List.set_cons_zero, List.set_cons_succ]
 refine tk 5 ?_ (hy := by (intro u hu; (have hx := ua u hu; go_simp) <;> with_reducible rfl))
 try simp only [Act.put, List.setIfInBounds_toArray, List.set_cons_zero, List.set_cons_succ]
 refine tk 6 ?_
 try simp only [Act.put, List.setIfInBounds_toArray, List.set_cons_zero, List.set_cons_succ]
 refine tk 7 ?_
 try simp only [Act.put, List.setIfInBounds_toArray, List.set_cons_zero, List.set_cons_succ]
 refine tk 8 ?_ (hy := by (intro u hu; (have hx := vj u (Ext.extB hu bv); go_simp) <;> with_reducible rfl))
 try simp only [Act.put, List.setIfInBounds_toArray, List.set_cons_zero, List.set_cons_succ]
 refine tk 9 ?_
 try simp only [Act.put, List.setIfInBounds_toArray, List.set_cons_zero, List.set_cons_succ]
 refine tk 10 ?_
 try simp only [Act.put, List.setIfInBounds_toArray, List.set_cons_zero, List.set_cons_succ]
 refine tk 11 ?_ (hy := by (intro u hu; (have hx := ub u hu; go_simp) <;> with_reducible rfl))
 try simp only [Act.put, List.setIfInBounds_toArray, List.set_cons_zero, List.set_cons_succ]
 refine tk 12 ?_
 try simp only [Act.put, List.setIfInBounds_toArray, List.set_cons_zero, List.set_cons_succ]
 refine tk 13 ?_
 try simp only [Act.put, List.setIfInBounds_toArray, List.set_cons_zero, List.set_cons_succ]
 refine tk 14 ?_
 try simp only [Act.put, List.setIfInBounds_toArray, List.set_cons_zero, List.set_cons_succ]
 refine tk 15 ?_
 try simp only [Act.put, List.setIfInBounds_toArray, List.set_cons_zero, List.set_cons_succ]
 refine wpAnyH_done (by kernel_rfl) ?_ _
 refine NoPanic.normal ?_
 obtain ⟨V0, hV0⟩ : ∃ V, V = W.drew := ⟨_, rfl⟩
 rw [← hV0] at hH ⊢
 have hT0 : Ext W V0 := hH
 clear hH hV0
 clear ha1 hs1 ua
 go_upto_region 2 with fail
 refine wp_region_noPanic ?_
 refine wp_region_held_drew (S := Ext V0) (by kernel_rfl) (Ext.refl _).drew (fun hH => ?_)
 change wpAnyH _ _ _ _ _ _ #[false, false, false, false, false, false, false, false, false, false] _ _
 refine tk 0 ?_
 try simp only [Act.put, List.setIfInBounds_toArray, List.set_cons_zero, List.set_cons_succ]
 refine tk 1 ?_
 try simp only [Act.put, List.setIfInBounds_toArray, List.set_cons_zero, List.set_cons_succ]
 refine tk 2 ?_ (hy := by (intro u hu; (have hx := vl u (Ext.extB (Ext.up7 hT0 hu) bv); go_simp) <;> with_reducible rfl))
 try simp only [Act.put, List.setIfInBounds_toArray, List.set_cons_zero, List.set_cons_succ]
 refine tk 3 ?_
 try simp only [Act.put, List.setIfInBounds_toArray, List.set_cons_zero, List.set_cons_succ]
 refine tk 4 ?_
 try simp only [Act.put, List.setIfInBounds_toArray, List.set_cons_zero, List.set_cons_succ]
 refine tk 5 ?_ (hy := by (intro u hu; (have hx := ud u (Ext.up7 hT0 hu); go_simp) <;> with_reducible rfl))
 try simp only [Act.put, List.setIfInBounds_toArray, List.set_cons_zero, List.set_cons_succ]
 refine tk 6 ?_
 try simp only [Act.put, List.setIfInBounds_toArray, List.set_cons_zero, List.set_cons_succ]
 refine tk 7 ?_
 try simp only [Act.put, List.setIfInBounds_toArray, List.set_cons_zero, List.set_cons_succ]
 refine rdy 8 (fun K hK => ?_)
 go_simp
 refine (rturn7_16_c _ (xr7_w (a := d) (b := a1) ⟨d0, d9⟩ ⟨a10, a19⟩) _).mono ?_
 rintro e V1 ⟨d1, rfl, HD1, hd1, hb⟩
 refine hK.out _ _ (hH.trans hb) (fun hH' => ?_)
 clear hK K hH; have hH := hH'; clear hH'; try simp only [List.setIfInBounds_toArray, List.set]
 refine tk 9 ?_
 try simp only [Act.put, List.setIfInBounds_toArray, List.set_cons_zero, List.set_cons_succ]
 refine wpAnyH_done (by kernel_rfl) ?_ _
 refine NoPanic.normal ?_
 have hT1 : Ext W V1 := Ext.up7 hT0 hH
 clear hH hb
 obtain ⟨d10, d19⟩ := hd1
 obtain ⟨c1, hc1⟩ : ∃ z, IntKind.u32.wrap (c + d1) = z := ⟨_, rfl⟩
 have HC1 : Hid (c1 = ad7 c d1) := by unfold Hid; rw [← hc1, IntKind.wrap_u32']; rfl
 have hwc1 : W7 c1 := by rw [HC1.out]; exact ad7_w _ _
 obtain ⟨c10, c19⟩ := hwc1
 clear ud
 go_upto_region 3 with fail
 refine wp_region_noPanic ?_
 refine wp_region_held_drew (S := Ext V1) (by kernel_rfl) (Ext.refl _).drew (fun hH => ?_)
 change wpAnyH _ _ _ _ _ _ #[false, false, false, false, false, false, false, false, false] _ _
 refine tk 0 ?_
 try simp only [Act.put, List.setIfInBounds_toArray, List.set_cons_zero, List.set_cons_succ]
 refine tk 1 ?_
 try simp only [Act.put, List.setIfInBounds_toArray, List.set_cons_zero, List.set_cons_succ]
 refine tk 2 ?_ (hy := by (intro u hu; (have hx := vk u (Ext.extB (Ext.up7 hT1 hu) bv); go_simp) <;> with_reducible rfl))
 try simp only [Act.put, List.setIfInBounds_toArray, List.set_cons_zero, List.set_cons_succ]
 refine tk 3 ?_
 try simp only [Act.put, List.setIfInBounds_toArray, List.set_cons_zero, List.set_cons_succ]
 refine tk 4 ?_
 try simp only [Act.put, List.setIfInBounds_toArray, List.set_cons_zero, List.set_cons_succ]
 refine tk 5 ?_ (hy := by (intro u hu; (have hx := uc u (Ext.up7 hT1 hu); go_simp) <;> with_reducible rfl))
 try simp only [Act.put, List.setIfInBounds_toArray, List.set_cons_zero, List.set_cons_succ]
 refine tk 6 ?_
 try simp only [Act.put, List.setIfInBounds_toArray, List.set_cons_zero, List.set_cons_succ]
 refine tk 7 ?_
 try simp only [Act.put, List.setIfInBounds_toArray, List.set_cons_zero, List.set_cons_succ]
 refine tk 8 ?_
 try simp only [Act.put, List.setIfInBounds_toArray, List.set_cons_zero, List.set_cons_succ]
 refine wpAnyH_done (by kernel_rfl) ?_ _
 refine NoPanic.normal ?_
 obtain ⟨V5, hV5⟩ : ∃ V, V = V1.drew := ⟨_, rfl⟩
 rw [← hV5] at hH ⊢
 have hT5 : Ext W V5 := Ext.up7 hT1 hH
 clear hH hV5
 clear hc1 uc
 go_upto_region 4 with fail
 refine wp_region_noPanic ?_
 refine wp_region_held_drew (S := Ext V5) (by kernel_rfl) (Ext.refl _).drew (fun hH => ?_)
 change wpAnyH _ _ _ _ _ _ #[false, false, false, false, false, false, false, false, false, false] _ _
 refine tk 0 ?_
 try simp only [Act.put, List.setIfInBounds_toArray, List.set_cons_zero, List.set_cons_succ]
 refine tk 1 ?_
 try simp only [Act.put, List.setIfInBounds_toArray, List.set_cons_zero, List.set_cons_succ]
 refine tk 2 ?_ (hy := by (intro u hu; (have hx := vj u (Ext.extB (Ext.up7 hT5 hu) bv); go_simp) <;> with_reducible rfl))
 try simp only [Act.put, List.setIfInBounds_toArray, List.set_cons_zero, List.set_cons_succ]
 refine tk 3 ?_
 try simp only [Act.put, List.setIfInBounds_toArray, List.set_cons_zero, List.set_cons_succ]
 refine tk 4 ?_
 try simp only [Act.put, List.setIfInBounds_toArray, List.set_cons_zero, List.set_cons_succ]
 refine tk 5 ?_ (hy := by (intro u hu; (have hx := ub u (Ext.up7 hT5 hu); go_simp) <;> with_reducible rfl))
 try simp only [Act.put, List.setIfInBounds_toArray, List.set_cons_zero, List.set_cons_succ]
 refine tk 6 ?_
 try simp only [Act.put, List.setIfInBounds_toArray, List.set_cons_zero, List.set_cons_succ]
 refine tk 7 ?_
 try simp only [Act.put, List.setIfInBounds_toArray, List.set_cons_zero, List.set_cons_succ]
 refine rdy 8 (fun K hK => ?_)
 go_simp
 refine (rturn7_12_c _ (xr7_w (a := b) (b := c1) ⟨b0, b9⟩ ⟨c10, c19⟩) _).mono ?_
 rintro e V2 ⟨b1, rfl, HB1, hb1, hb⟩
 refine hK.out _ _ (hH.trans hb) (fun hH' => ?_)
 clear hK K hH; have hH := hH'; clear hH'; try simp only [List.setIfInBounds_toArray, List.set]
 refine tk 9 ?_
 try simp only [Act.put, List.setIfInBounds_toArray, List.set_cons_zero, List.set_cons_succ]
 refine wpAnyH_done (by kernel_rfl) ?_ _
 refine NoPanic.normal ?_
 have hT2 : Ext W V2 := Ext.up7 hT5 hH
 clear hH hb
 obtain ⟨b10, b19⟩ := hb1
 clear ub
 go_wp2_with fail
 try simp only [Int.emod_add_emod]
 have k3 : 0 ≤ (a1 + b1 + y) % 4294967296 := by omega
 have l3 : (a1 + b1 + y) % 4294967296 < 4294967296 := by omega
 obtain ⟨a2, h3⟩ : ∃ z, z = (a1 + b1 + y) % 4294967296 := ⟨_, rfl⟩
 rw [← h3] at k3 l3 ⊢
 have HA2 : Hid (a2 = ad7 (ad7 a1 b1) y) := by unfold Hid; rw [h3]; exact ad7_two _ _ _
 clear h3
 refine (rturn7_8_c _ (xr7_w (a := d1) (b := a2) ⟨d10, d19⟩ ⟨k3, l3⟩) _).mono ?_
 rintro e V3 ⟨d2, rfl, HD2, ⟨d20, d29⟩, hb⟩
 replace hT2 : Ext W V3 := hT2.trans hb
 clear hb
 go_wp2_with fail
 have k4 : 0 ≤ (c1 + d2) % 4294967296 := by omega
 have l4 : (c1 + d2) % 4294967296 < 4294967296 := by omega
 obtain ⟨c2, h4⟩ : ∃ z, z = (c1 + d2) % 4294967296 := ⟨_, rfl⟩
 rw [← h4] at k4 l4 ⊢
 have HC2 : Hid (c2 = ad7 c1 d2) := h4
 clear h4
 refine (rturn7_7_c _ (xr7_w (a := b1) (b := c2) ⟨b10, b19⟩ ⟨k4, l4⟩) _).mono ?_
 rintro e V4 ⟨b2, rfl, HB2, ⟨b20, b29⟩, hb⟩
 replace hT2 : Ext W V4 := hT2.trans hb
 clear hb
 have HV4 : Hid (Ar V4 bv 16 (List.map (Value.int .u32) L)) := HV.out.later hT2
 have hX : ExtB bv W V4 := hT2.extB bv
 clear HV ca cb cc cd fa fb fc fd hT2
 go_upto_region 9 with fail
 obtain ⟨z0, cz, fz, -, -⟩ := wn_word HV4.out HW.out i hi
 refine wp_region_noPanic ?_
 refine wp_region_held_drew (S := ExtB bv V4) (by kernel_rfl) (ExtB.refl _ _).drew (fun hH => ?_)
 change wpAnyH _ _ _ _ _ _ #[false, false, false, false, false, false, false] _ _
 refine tk 0 ?_
 try simp only [Act.put, List.setIfInBounds_toArray, List.set_cons_zero, List.set_cons_succ]
 refine tk 1 ?_
 try simp only [Act.put, List.setIfInBounds_toArray, List.set_cons_zero, List.set_cons_succ]
 refine tk 2 ?_ (hy := by (intro u hu; (have hx := vi u (ExtB.comp hX hu); go_simp) <;> with_reducible rfl))
 try simp only [Act.put, List.setIfInBounds_toArray, List.set_cons_zero, List.set_cons_succ]
 refine tk 3 ?_
 try simp only [Act.put, List.setIfInBounds_toArray, List.set_cons_zero, List.set_cons_succ]
 refine tk 4 ?_
 try simp only [Act.put, List.setIfInBounds_toArray, List.set_cons_zero, List.set_cons_succ]
 refine tk 5 ?_
 try simp only [Act.put, List.setIfInBounds_toArray, List.set_cons_zero, List.set_cons_succ]
 refine rdy 6 (fun K hK => ?_)
 go_simp
 refine hK.out _ _ (hH.set i _) (fun hH' => ?_)
 clear hK K hH; have hH := hH'; clear hH'; try simp only [List.setIfInBounds_toArray, List.set]
 refine wpAnyH_done (by kernel_rfl) ?_ _
 refine NoPanic.normal ?_
 have HV5 : Hid (Ar (V4.setCell ⟨bv, i, none⟩ (.int .u32 a2)).drew bv 16 (List.map (Value.int .u32) (L.set i a2))) := by unfold Hid; rw [List.map_set]; exact (HV4.out.set i hi _).drew
 obtain ⟨U1, hnew⟩ : ∃ V, V = (V4.setCell ⟨bv, i, none⟩ (.int .u32 a2)).drew := ⟨_, rfl⟩
 rw [← hnew] at HV5 hH ⊢
 replace hX : ExtB bv W U1 := ExtB.comp hX hH
 clear HV4
 have HV4 := HV5
 clear HV5 hnew hH cz fz
 go_upto_region 10 with fail
 obtain ⟨z0, cz, fz, -, -⟩ := wn_word HV4.out (HW.out.set i ⟨k3, l3⟩) j hj
 refine wp_region_noPanic ?_
 refine wp_region_held_drew (S := ExtB bv U1) (by kernel_rfl) (ExtB.refl _ _).drew (fun hH => ?_)
 change wpAnyH _ _ _ _ _ _ #[false, false, false, false, false, false, false] _ _
 refine tk 0 ?_
 try simp only [Act.put, List.setIfInBounds_toArray, List.set_cons_zero, List.set_cons_succ]
 refine tk 1 ?_
 try simp only [Act.put, List.setIfInBounds_toArray, List.set_cons_zero, List.set_cons_succ]
 refine tk 2 ?_ (hy := by (intro u hu; (have hx := vj u (ExtB.comp hX hu); go_simp) <;> with_reducible rfl))
 try simp only [Act.put, List.setIfInBounds_toArray, List.set_cons_zero, List.set_cons_succ]
 refine tk 3 ?_
 try simp only [Act.put, List.setIfInBounds_toArray, List.set_cons_zero, List.set_cons_succ]
 refine tk 4 ?_
 try simp only [Act.put, List.setIfInBounds_toArray, List.set_cons_zero, List.set_cons_succ]
 refine tk 5 ?_
 try simp only [Act.put, List.setIfInBounds_toArray, List.set_cons_zero, List.set_cons_succ]
 refine rdy 6 (fun K hK => ?_)
 go_simp
 refine hK.out _ _ (hH.set j _) (fun hH' => ?_)
 clear hK K hH; have hH := hH'; clear hH'; try simp only [List.setIfInBounds_toArray, List.set]
 refine wpAnyH_done (by kernel_rfl) ?_ _
 refine NoPanic.normal ?_
 have HV5 : Hid (Ar (U1.setCell ⟨bv, j, none⟩ (.int .u32 b2)).drew bv 16 (List.map (Value.int .u32) ((L.set i a2).set j b2))) := by unfold Hid; rw [List.map_set]; exact (HV4.out.set j hj _).drew
 obtain ⟨U2, hnew⟩ : ∃ V, V = (U1.setCell ⟨bv, j, none⟩ (.int .u32 b2)).drew := ⟨_, rfl⟩
 rw [← hnew] at HV5 hH ⊢
 replace hX : ExtB bv W U2 := ExtB.comp hX hH
 clear HV4
 have HV4 := HV5
 clear HV5 hnew hH cz fz
 go_upto_region 11 with fail
 obtain ⟨z0, cz, fz, -, -⟩ := wn_word HV4.out ((HW.out.set i ⟨k3, l3⟩).set j ⟨b20, b29⟩) k hk
 refine wp_region_noPanic ?_
 refine wp_region_held_drew (S := ExtB bv U2) (by kernel_rfl) (ExtB.refl _ _).drew (fun hH => ?_)
 change wpAnyH _ _ _ _ _ _ #[false, false, false, false, false, false, false] _ _
 refine tk 0 ?_
 try simp only [Act.put, List.setIfInBounds_toArray, List.set_cons_zero, List.set_cons_succ]
 refine tk 1 ?_
 try simp only [Act.put, List.setIfInBounds_toArray, List.set_cons_zero, List.set_cons_succ]
 refine tk 2 ?_ (hy := by (intro u hu; (have hx := vk u (ExtB.comp hX hu); go_simp) <;> with_reducible rfl))
 try simp only [Act.put, List.setIfInBounds_toArray, List.set_cons_zero, List.set_cons_succ]
 refine tk 3 ?_
 try simp only [Act.put, List.setIfInBounds_toArray, List.set_cons_zero, List.set_cons_succ]
 refine tk 4 ?_
 try simp only [Act.put, List.setIfInBounds_toArray, List.set_cons_zero, List.set_cons_succ]
 refine tk 5 ?_
 try simp only [Act.put, List.setIfInBounds_toArray, List.set_cons_zero, List.set_cons_succ]
 refine rdy 6 (fun K hK => ?_)
 go_simp
 refine hK.out _ _ (hH.set k _) (fun hH' => ?_)
 clear hK K hH; have hH := hH'; clear hH'; try simp only [List.setIfInBounds_toArray, List.set]
 refine wpAnyH_done (by kernel_rfl) ?_ _
 refine NoPanic.normal ?_
 have HV5 : Hid (Ar (U2.setCell ⟨bv, k, none⟩ (.int .u32 c2)).drew bv 16 (List.map (Value.int .u32) (((L.set i a2).set j b2).set k c2))) := by unfold Hid; rw [List.map_set]; exact (HV4.out.set k hk _).drew
 obtain ⟨U3, hnew⟩ : ∃ V, V = (U2.setCell ⟨bv, k, none⟩ (.int .u32 c2)).drew := ⟨_, rfl⟩
 rw [← hnew] at HV5 hH ⊢
 replace hX : ExtB bv W U3 := ExtB.comp hX hH
 clear HV4
 have HV4 := HV5
 clear HV5 hnew hH cz fz
 go_upto_region 12 with fail
 obtain ⟨z0, cz, fz, -, -⟩ := wn_word HV4.out (((HW.out.set i ⟨k3, l3⟩).set j ⟨b20, b29⟩).set k ⟨k4, l4⟩) l hl
 refine wp_region_noPanic ?_
 refine wp_region_held_drew (S := ExtB bv U3) (by kernel_rfl) (ExtB.refl _ _).drew (fun hH => ?_)
 change wpAnyH _ _ _ _ _ _ #[false, false, false, false, false, false, false] _ _
 refine tk 0 ?_
 try simp only [Act.put, List.setIfInBounds_toArray, List.set_cons_zero, List.set_cons_succ]
 refine tk 1 ?_
 try simp only [Act.put, List.setIfInBounds_toArray, List.set_cons_zero, List.set_cons_succ]
 refine tk 2 ?_ (hy := by (intro u hu; (have hx := vl u (ExtB.comp hX hu); go_simp) <;> with_reducible rfl))
 try simp only [Act.put, List.setIfInBounds_toArray, List.set_cons_zero, List.set_cons_succ]
 refine tk 3 ?_
 try simp only [Act.put, List.setIfInBounds_toArray, List.set_cons_zero, List.set_cons_succ]
 refine tk 4 ?_
 try simp only [Act.put, List.setIfInBounds_toArray, List.set_cons_zero, List.set_cons_succ]
 refine tk 5 ?_
 try simp only [Act.put, List.setIfInBounds_toArray, List.set_cons_zero, List.set_cons_succ]
 refine rdy 6 (fun K hK => ?_)
 go_simp
 refine hK.out _ _ (hH.set l _) (fun hH' => ?_)
 clear hK K hH; have hH := hH'; clear hH'; try simp only [List.setIfInBounds_toArray, List.set]
 refine wpAnyH_done (by kernel_rfl) ?_ _
 refine NoPanic.normal ?_
 have HV5 : Hid (Ar (U3.setCell ⟨bv, l, none⟩ (.int .u32 d2)).drew bv 16 (List.map (Value.int .u32) ((((L.set i a2).set j b2).set k c2).set l d2))) := by unfold Hid; rw [List.map_set]; exact (HV4.out.set l hl _).drew
 obtain ⟨U4, hnew⟩ : ∃ V, V = (U3.setCell ⟨bv, l, none⟩ (.int .u32 d2)).drew := ⟨_, rfl⟩
 rw [← hnew] at HV5 hH ⊢
 replace hX : ExtB bv W U4 := ExtB.comp hX hH
 clear HV4
 have HV4 := HV5
 clear HV5 hnew hH cz fz
 go_end0
 refine ⟨rfl, ?_, HE.out.comp hX⟩
 unfold Hid
 have hq := mg7_of HA1.out HD1.out HC1.out HB1.out HA2.out HD2.out HC2.out HB2.out
 unfold bg7
 rw [← HA.out, ← HB.out, ← HC.out, ← HD.out, ← hq]
 exact HV4.out
end Go.Proofs.YtmibjgkakolhiaaGreatDoor
