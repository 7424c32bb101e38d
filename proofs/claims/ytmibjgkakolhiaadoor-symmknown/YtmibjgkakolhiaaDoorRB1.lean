/-
  What the reference's turn and mix do: the same G. No statement of the seat is proved here.
-/
import Derived.Test.YtmibjgkakolhiaaDoorBList
namespace Go.Proofs.YtmibjgkakolhiaaDoor
open Go.RowKit

set_option maxRecDepth 8000 in
set_option maxHeartbeats 400000 in
theorem rturn7_16_c (x : Int) (hx : W7 x) (w : World) :
    Calls Tryd.prog 50 #[.int .u32 x, .int .u64 16] w fun e w' => ∃ z, e = .returned (.int .u32 z) ∧ Hid (z = rr7 x 65536 65536) ∧ W7 z ∧ Below w.heap.size w w' := by
  have HZ : Hid (W7 (rr7 x 65536 65536)) := rr7_16 hx
  rw [← rr7_16_or' hx] at HZ
  have HE : Hid _ := rr7_16_or' hx
  obtain ⟨x0, x1⟩ := hx
  go_enter Tryd.func50, Tryd.ntmps50
  go_wp2
  go_ret
  exact ⟨_, rfl, HE, HZ.out, Below.refl _ _⟩

set_option maxRecDepth 8000 in
set_option maxHeartbeats 400000 in
theorem rturn7_12_c (x : Int) (hx : W7 x) (w : World) :
    Calls Tryd.prog 50 #[.int .u32 x, .int .u64 20] w fun e w' => ∃ z, e = .returned (.int .u32 z) ∧ Hid (z = rr7 x 4096 1048576) ∧ W7 z ∧ Below w.heap.size w w' := by
  have HZ : Hid (W7 (rr7 x 4096 1048576)) := rr7_12 hx
  rw [← rr7_12_or' hx] at HZ
  have HE : Hid _ := rr7_12_or' hx
  obtain ⟨x0, x1⟩ := hx
  go_enter Tryd.func50, Tryd.ntmps50
  go_wp2
  go_ret
  exact ⟨_, rfl, HE, HZ.out, Below.refl _ _⟩

set_option maxRecDepth 8000 in
set_option maxHeartbeats 400000 in
theorem rturn7_8_c (x : Int) (hx : W7 x) (w : World) :
    Calls Tryd.prog 50 #[.int .u32 x, .int .u64 24] w fun e w' => ∃ z, e = .returned (.int .u32 z) ∧ Hid (z = rr7 x 256 16777216) ∧ W7 z ∧ Below w.heap.size w w' := by
  have HZ : Hid (W7 (rr7 x 256 16777216)) := rr7_8 hx
  rw [← rr7_8_or' hx] at HZ
  have HE : Hid _ := rr7_8_or' hx
  obtain ⟨x0, x1⟩ := hx
  go_enter Tryd.func50, Tryd.ntmps50
  go_wp2
  go_ret
  exact ⟨_, rfl, HE, HZ.out, Below.refl _ _⟩

set_option maxRecDepth 8000 in
set_option maxHeartbeats 400000 in
theorem rturn7_7_c (x : Int) (hx : W7 x) (w : World) :
    Calls Tryd.prog 50 #[.int .u32 x, .int .u64 25] w fun e w' => ∃ z, e = .returned (.int .u32 z) ∧ Hid (z = rr7 x 128 33554432) ∧ W7 z ∧ Below w.heap.size w w' := by
  have HZ : Hid (W7 (rr7 x 128 33554432)) := rr7_7 hx
  rw [← rr7_7_or' hx] at HZ
  have HE : Hid _ := rr7_7_or' hx
  obtain ⟨x0, x1⟩ := hx
  go_enter Tryd.func50, Tryd.ntmps50
  go_wp2
  go_ret
  exact ⟨_, rfl, HE, HZ.out, Below.refl _ _⟩

set_option maxRecDepth 8000 in
theorem Ext.up7 {a b c : World} (h : Ext a b) (k : Ext b c) : Ext a c := Ext.trans h k
set_option maxRecDepth 8000 in
theorem ad7_two (a b x : Int) : (a + b + x) % 4294967296 = ad7 (ad7 a b) x := by
  unfold ad7
  omega
set_option maxRecDepth 8000 in
set_option maxHeartbeats 4000000 in
theorem rmix_c (bv : Nat) (L : List Int) (i j k l : Nat) (x y : Int) (w : World) (hv : Ar w bv 16 (List.map (Value.int .u32) L)) (hL : Wn 16 L) (hi : i < 16) (hj : j < 16) (hk : k < 16) (hl : l < 16) (hx : W7 x) (hy : W7 y) :
    Calls Tryd.prog 39 #[.pointer (some ⟨bv, 0, none⟩), .agg #[.int .i64 (i : Int), .int .i64 (j : Int), .int .i64 (k : Int), .int .i64 (l : Int)], .int .u32 x, .int .u32 y] w fun e w' => e = .returned (.tuple #[]) ∧ Hid (Ar w' bv 16 (List.map (Value.int .u32) (bg7 L i j k l x y))) ∧ ExtB bv w w' := by
  have HW : Hid (Wn 16 L) := hL
  have hb0 : bv < w.heap.size := hv.lt (by decide)
  have gi : (i : Int) < 16 := by omega
  have gj : (j : Int) < 16 := by omega
  have gk : (k : Int) < 16 := by omega
  have gl : (l : Int) < 16 := by omega
  obtain ⟨x0, x9⟩ := hx
  obtain ⟨y0, y9⟩ := hy
  go_enter Tryd.func39, Tryd.ntmps39
  go_upto_region 1 with fail
  have HV : Hid (Ar (w.alloc (.cells #[.int .i64 (i : Int), .int .i64 (j : Int), .int .i64 (k : Int), .int .i64 (l : Int)] 73)) bv 16 (List.map (Value.int .u32) L)) := hv.later (bel1 _ _)
  have HR : Hid (Ar (w.alloc (.cells #[.int .i64 (i : Int), .int .i64 (j : Int), .int .i64 (k : Int), .int .i64 (l : Int)] 73)) w.heap.size 4 [.int .i64 (i : Int), .int .i64 (j : Int), .int .i64 (k : Int), .int .i64 (l : Int)]) := ar_box w _ 4 rfl _
  have HE : Hid (ExtB bv w (w.alloc (.cells #[.int .i64 (i : Int), .int .i64 (j : Int), .int .i64 (k : Int), .int .i64 (l : Int)] 73))) := (ExtB.refl _ _).alloc _
  obtain ⟨W, hW⟩ : ∃ W, W = w.alloc (.cells #[.int .i64 (i : Int), .int .i64 (j : Int), .int .i64 (k : Int), .int .i64 (l : Int)] 73) := ⟨_, rfl⟩
  obtain ⟨q, hq⟩ : ∃ q, q = w.heap.size := ⟨_, rfl⟩
  rw [← hW] at HV HR HE ⊢
  rw [← hq] at HR hb0 ⊢
  have hne : q ≠ bv := by omega
  clear hW hq hv hL
  obtain ⟨a, ca, fa, ⟨a0, a9⟩, HA⟩ := wn_word HV.out HW.out i hi
  obtain ⟨b, cb, fb, ⟨b0, b9⟩, HB⟩ := wn_word HV.out HW.out j hj
  obtain ⟨c, cc, fc, ⟨c0, c9⟩, HC⟩ := wn_word HV.out HW.out k hk
  obtain ⟨d, cd, fd, ⟨d0, d9⟩, HD⟩ := wn_word HV.out HW.out l hl
  have ri : W.cell? ⟨q, 0, none⟩ = some (.int .i64 (i : Int)) := (HR.out.cell 0 (by decide)).1
  have rj : W.cell? ⟨q, 1, none⟩ = some (.int .i64 (j : Int)) := (HR.out.cell 1 (by decide)).1
  have rk : W.cell? ⟨q, 2, none⟩ = some (.int .i64 (k : Int)) := (HR.out.cell 2 (by decide)).1
  have rl : W.cell? ⟨q, 3, none⟩ = some (.int .i64 (l : Int)) := (HR.out.cell 3 (by decide)).1
  have ua : ∀ u, Ext W u → u.cell? ⟨bv, i, none⟩ = some (.int .u32 a) := fun u hu => hu.cell ca
  have ub : ∀ u, Ext W u → u.cell? ⟨bv, j, none⟩ = some (.int .u32 b) := fun u hu => hu.cell cb
  have uc : ∀ u, Ext W u → u.cell? ⟨bv, k, none⟩ = some (.int .u32 c) := fun u hu => hu.cell cc
  have ud : ∀ u, Ext W u → u.cell? ⟨bv, l, none⟩ = some (.int .u32 d) := fun u hu => hu.cell cd
  have vi : ∀ u, ExtB bv W u → u.cell? ⟨q, 0, none⟩ = some (.int .i64 (i : Int)) := fun u hu => hu.cell hne ri
  have vj : ∀ u, ExtB bv W u → u.cell? ⟨q, 1, none⟩ = some (.int .i64 (j : Int)) := fun u hu => hu.cell hne rj
  have vk : ∀ u, ExtB bv W u → u.cell? ⟨q, 2, none⟩ = some (.int .i64 (k : Int)) := fun u hu => hu.cell hne rk
  have vl : ∀ u, ExtB bv W u → u.cell? ⟨q, 3, none⟩ = some (.int .i64 (l : Int)) := fun u hu => hu.cell hne rl
  have hwl := HV.out.lt (by decide)
  clear HR ri rj rk rl
  obtain ⟨s1, hs1⟩ : ∃ z, IntKind.u32.wrap (a + b) = z := ⟨_, rfl⟩
  obtain ⟨a1, ha1⟩ : ∃ z, IntKind.u32.wrap (s1 + x) = z := ⟨_, rfl⟩
  have HA1 : Hid (a1 = ad7 (ad7 a b) x) := by unfold Hid; rw [← ha1, ← hs1, IntKind.wrap_u32', IntKind.wrap_u32']; rfl
  have hwa1 : W7 a1 := by rw [HA1.out]; exact ad7_w _ _
  obtain ⟨a10, a19⟩ := hwa1
  refine wp_region_noPanic ?_
  refine wp_region_held_drew (S := Ext W) (by kernel_rfl) (Ext.refl _).drew (fun hH => ?_)
  change wpAnyH _ _ _ _ _ _ #[false, false, false, false, false, false, false, false, false, false, false, false, false, false, false, false] _ _
  refine wpAnyH_take (i := 0) (oi := ?o0r1) (v := ?v0r1) ?h0r1 (by kernel_rfl) ?f0r1 ?r0r1 (fun _ _ _ h => h) (Or.inl ⟨?w0r1, ?y0r1⟩) (by assumption) ?t0r1
  case h0r1 => simp only [List.getElem?_toArray]; rfl
  case f0r1 => kernel_rfl
  case r0r1 => kernel_rfl
  case w0r1 => rfl
  case y0r1 => (intro u hu; (go_simp) <;> with_reducible rfl)
  try simp only [Act.put, List.setIfInBounds_toArray, List.set_cons_zero, List.set_cons_succ]
  refine wpAnyH_take (i := 1) (oi := ?o1r1) (v := ?v1r1) ?h1r1 (by kernel_rfl) ?f1r1 ?r1r1 (fun _ _ _ h => h) (Or.inl ⟨?w1r1, ?y1r1⟩) (by assumption) ?t1r1
  case h1r1 => simp only [List.getElem?_toArray]; rfl
  case f1r1 => kernel_rfl
  case r1r1 => kernel_rfl
  case w1r1 => rfl
  case y1r1 => (intro u hu; (go_simp) <;> with_reducible rfl)
  try simp only [Act.put, List.setIfInBounds_toArray, List.set_cons_zero, List.set_cons_succ]
  refine wpAnyH_take (i := 2) (oi := ?o2r1) (v := ?v2r1) ?h2r1 (by kernel_rfl) ?f2r1 ?r2r1 (fun _ _ _ h => h) (Or.inl ⟨?w2r1, ?y2r1⟩) (by assumption) ?t2r1
  case h2r1 => simp only [List.getElem?_toArray]; rfl
  case f2r1 => kernel_rfl
  case r2r1 => kernel_rfl
  case w2r1 => rfl
  case y2r1 => (intro u hu; (have hx := vi u (Ext.extB hu bv); go_simp) <;> with_reducible rfl)
  try simp only [Act.put, List.setIfInBounds_toArray, List.set_cons_zero, List.set_cons_succ]
  refine wpAnyH_take (i := 3) (oi := ?o3r1) (v := ?v3r1) ?h3r1 (by kernel_rfl) ?f3r1 ?r3r1 (fun _ _ _ h => h) (Or.inl ⟨?w3r1, ?y3r1⟩) (by assumption) ?t3r1
  case h3r1 => simp only [List.getElem?_toArray]; rfl
  case f3r1 => kernel_rfl
  case r3r1 => kernel_rfl
  case w3r1 => rfl
  case y3r1 => (intro u hu; (go_simp) <;> with_reducible rfl)
  try simp only [Act.put, List.setIfInBounds_toArray, List.set_cons_zero, List.set_cons_succ]
  refine wpAnyH_take (i := 4) (oi := ?o4r1) (v := ?v4r1) ?h4r1 (by kernel_rfl) ?f4r1 ?r4r1 (fun _ _ _ h => h) (Or.inl ⟨?w4r1, ?y4r1⟩) (by assumption) ?t4r1
  case h4r1 => simp only [List.getElem?_toArray]; rfl
  case f4r1 => kernel_rfl
  case r4r1 => kernel_rfl
  case w4r1 => rfl
  case y4r1 => (intro u hu; (go_simp) <;> with_reducible rfl)
  try simp only [Act.put, List.setIfInBounds_toArray, List.set_cons_zero, List.set_cons_succ]
  refine wpAnyH_take (i := 5) (oi := ?o5r1) (v := ?v5r1) ?h5r1 (by kernel_rfl) ?f5r1 ?r5r1 (fun _ _ _ h => h) (Or.inl ⟨?w5r1, ?y5r1⟩) (by assumption) ?t5r1
  case h5r1 => simp only [List.getElem?_toArray]; rfl
  case f5r1 => kernel_rfl
  case r5r1 => kernel_rfl
  case w5r1 => rfl
  case y5r1 => (intro u hu; (have hx := ua u hu; go_simp) <;> with_reducible rfl)
  try simp only [Act.put, List.setIfInBounds_toArray, List.set_cons_zero, List.set_cons_succ]
  refine wpAnyH_take (i := 6) (oi := ?o6r1) (v := ?v6r1) ?h6r1 (by kernel_rfl) ?f6r1 ?r6r1 (fun _ _ _ h => h) (Or.inl ⟨?w6r1, ?y6r1⟩) (by assumption) ?t6r1
  case h6r1 => simp only [List.getElem?_toArray]; rfl
  case f6r1 => kernel_rfl
  case r6r1 => kernel_rfl
  case w6r1 => rfl
  case y6r1 => (intro u hu; (go_simp) <;> with_reducible rfl)
  try simp only [Act.put, List.setIfInBounds_toArray, List.set_cons_zero, List.set_cons_succ]
  refine wpAnyH_take (i := 7) (oi := ?o7r1) (v := ?v7r1) ?h7r1 (by kernel_rfl) ?f7r1 ?r7r1 (fun _ _ _ h => h) (Or.inl ⟨?w7r1, ?y7r1⟩) (by assumption) ?t7r1
  case h7r1 => simp only [List.getElem?_toArray]; rfl
  case f7r1 => kernel_rfl
  case r7r1 => kernel_rfl
  case w7r1 => rfl
  case y7r1 => (intro u hu; (go_simp) <;> with_reducible rfl)
  try simp only [Act.put, List.setIfInBounds_toArray, List.set_cons_zero, List.set_cons_succ]
  refine wpAnyH_take (i := 8) (oi := ?o8r1) (v := ?v8r1) ?h8r1 (by kernel_rfl) ?f8r1 ?r8r1 (fun _ _ _ h => h) (Or.inl ⟨?w8r1, ?y8r1⟩) (by assumption) ?t8r1
  case h8r1 => simp only [List.getElem?_toArray]; rfl
  case f8r1 => kernel_rfl
  case r8r1 => kernel_rfl
  case w8r1 => rfl
  case y8r1 => (intro u hu; (have hx := vj u (Ext.extB hu bv); go_simp) <;> with_reducible rfl)
  try simp only [Act.put, List.setIfInBounds_toArray, List.set_cons_zero, List.set_cons_succ]
  refine wpAnyH_take (i := 9) (oi := ?o9r1) (v := ?v9r1) ?h9r1 (by kernel_rfl) ?f9r1 ?r9r1 (fun _ _ _ h => h) (Or.inl ⟨?w9r1, ?y9r1⟩) (by assumption) ?t9r1
  case h9r1 => simp only [List.getElem?_toArray]; rfl
  case f9r1 => kernel_rfl
  case r9r1 => kernel_rfl
  case w9r1 => rfl
  case y9r1 => (intro u hu; (go_simp) <;> with_reducible rfl)
  try simp only [Act.put, List.setIfInBounds_toArray, List.set_cons_zero, List.set_cons_succ]
  refine wpAnyH_take (i := 10) (oi := ?o10r1) (v := ?v10r1) ?h10r1 (by kernel_rfl) ?f10r1 ?r10r1 (fun _ _ _ h => h) (Or.inl ⟨?w10r1, ?y10r1⟩) (by assumption) ?t10r1
  case h10r1 => simp only [List.getElem?_toArray]; rfl
  case f10r1 => kernel_rfl
  case r10r1 => kernel_rfl
  case w10r1 => rfl
  case y10r1 => (intro u hu; (go_simp) <;> with_reducible rfl)
  try simp only [Act.put, List.setIfInBounds_toArray, List.set_cons_zero, List.set_cons_succ]
  refine wpAnyH_take (i := 11) (oi := ?o11r1) (v := ?v11r1) ?h11r1 (by kernel_rfl) ?f11r1 ?r11r1 (fun _ _ _ h => h) (Or.inl ⟨?w11r1, ?y11r1⟩) (by assumption) ?t11r1
  case h11r1 => simp only [List.getElem?_toArray]; rfl
  case f11r1 => kernel_rfl
  case r11r1 => kernel_rfl
  case w11r1 => rfl
  case y11r1 => (intro u hu; (have hx := ub u hu; go_simp) <;> with_reducible rfl)
  try simp only [Act.put, List.setIfInBounds_toArray, List.set_cons_zero, List.set_cons_succ]
  refine wpAnyH_take (i := 12) (oi := ?o12r1) (v := ?v12r1) ?h12r1 (by kernel_rfl) ?f12r1 ?r12r1 (fun _ _ _ h => h) (Or.inl ⟨?w12r1, ?y12r1⟩) (by assumption) ?t12r1
  case h12r1 => simp only [List.getElem?_toArray]; rfl
  case f12r1 => kernel_rfl
  case r12r1 => kernel_rfl
  case w12r1 => rfl
  case y12r1 => (intro u hu; (go_simp) <;> with_reducible rfl)
  try simp only [Act.put, List.setIfInBounds_toArray, List.set_cons_zero, List.set_cons_succ]
  refine wpAnyH_take (i := 13) (oi := ?o13r1) (v := ?v13r1) ?h13r1 (by kernel_rfl) ?f13r1 ?r13r1 (fun _ _ _ h => h) (Or.inl ⟨?w13r1, ?y13r1⟩) (by assumption) ?t13r1
  case h13r1 => simp only [List.getElem?_toArray]; rfl
  case f13r1 => kernel_rfl
  case r13r1 => kernel_rfl
  case w13r1 => rfl
  case y13r1 => (intro u hu; (go_simp) <;> with_reducible rfl)
  try simp only [Act.put, List.setIfInBounds_toArray, List.set_cons_zero, List.set_cons_succ]
  refine wpAnyH_take (i := 14) (oi := ?o14r1) (v := ?v14r1) ?h14r1 (by kernel_rfl) ?f14r1 ?r14r1 (fun _ _ _ h => h) (Or.inl ⟨?w14r1, ?y14r1⟩) (by assumption) ?t14r1
  case h14r1 => simp only [List.getElem?_toArray]; rfl
  case f14r1 => kernel_rfl
  case r14r1 => kernel_rfl
  case w14r1 => rfl
  case y14r1 => (intro u hu; (go_simp) <;> with_reducible rfl)
  try simp only [Act.put, List.setIfInBounds_toArray, List.set_cons_zero, List.set_cons_succ]
  refine wpAnyH_take (i := 15) (oi := ?o15r1) (v := ?v15r1) ?h15r1 (by kernel_rfl) ?f15r1 ?r15r1 (fun _ _ _ h => h) (Or.inl ⟨?w15r1, ?y15r1⟩) (by assumption) ?t15r1
  case h15r1 => simp only [List.getElem?_toArray]; rfl
  case f15r1 => kernel_rfl
  case r15r1 => kernel_rfl
  case w15r1 => rfl
  case y15r1 => (intro u hu; (go_simp) <;> with_reducible rfl)
  try simp only [Act.put, List.setIfInBounds_toArray, List.set_cons_zero, List.set_cons_succ]
  refine wpAnyH_done (by kernel_rfl) ?_ _
  refine NoPanic.normal ?_
  obtain ⟨V0, hV0⟩ : ∃ V, V = W.drew := ⟨_, rfl⟩
  rw [← hV0] at hH ⊢
  have hT0 : Ext W V0 := hH
  clear hH hV0
  clear ha1 hs1 ua
  go_upto_region 2 with fail
  refine wp_region_noPanic ?_
  refine wp_region_held_drew (S := Ext V0) (by kernel_rfl) (Ext.refl _).drew (fun hH => ?_)
  change wpAnyH _ _ _ _ _ _ #[false, false, false, false, false, false, false, false, false, false] _ _
  refine wpAnyH_take (i := 0) (oi := ?o0r2) (v := ?v0r2) ?h0r2 (by kernel_rfl) ?f0r2 ?r0r2 (fun _ _ _ h => h) (Or.inl ⟨?w0r2, ?y0r2⟩) (by assumption) ?t0r2
  case h0r2 => simp only [List.getElem?_toArray]; rfl
  case f0r2 => kernel_rfl
  case r0r2 => kernel_rfl
  case w0r2 => rfl
  case y0r2 => (intro u hu; (go_simp) <;> with_reducible rfl)
  try simp only [Act.put, List.setIfInBounds_toArray, List.set_cons_zero, List.set_cons_succ]
  refine wpAnyH_take (i := 1) (oi := ?o1r2) (v := ?v1r2) ?h1r2 (by kernel_rfl) ?f1r2 ?r1r2 (fun _ _ _ h => h) (Or.inl ⟨?w1r2, ?y1r2⟩) (by assumption) ?t1r2
  case h1r2 => simp only [List.getElem?_toArray]; rfl
  case f1r2 => kernel_rfl
  case r1r2 => kernel_rfl
  case w1r2 => rfl
  case y1r2 => (intro u hu; (go_simp) <;> with_reducible rfl)
  try simp only [Act.put, List.setIfInBounds_toArray, List.set_cons_zero, List.set_cons_succ]
  refine wpAnyH_take (i := 2) (oi := ?o2r2) (v := ?v2r2) ?h2r2 (by kernel_rfl) ?f2r2 ?r2r2 (fun _ _ _ h => h) (Or.inl ⟨?w2r2, ?y2r2⟩) (by assumption) ?t2r2
  case h2r2 => simp only [List.getElem?_toArray]; rfl
  case f2r2 => kernel_rfl
  case r2r2 => kernel_rfl
  case w2r2 => rfl
  case y2r2 => (intro u hu; (have hx := vl u (Ext.extB (Ext.up7 hT0 hu) bv); go_simp) <;> with_reducible rfl)
  try simp only [Act.put, List.setIfInBounds_toArray, List.set_cons_zero, List.set_cons_succ]
  refine wpAnyH_take (i := 3) (oi := ?o3r2) (v := ?v3r2) ?h3r2 (by kernel_rfl) ?f3r2 ?r3r2 (fun _ _ _ h => h) (Or.inl ⟨?w3r2, ?y3r2⟩) (by assumption) ?t3r2
  case h3r2 => simp only [List.getElem?_toArray]; rfl
  case f3r2 => kernel_rfl
  case r3r2 => kernel_rfl
  case w3r2 => rfl
  case y3r2 => (intro u hu; (go_simp) <;> with_reducible rfl)
  try simp only [Act.put, List.setIfInBounds_toArray, List.set_cons_zero, List.set_cons_succ]
  refine wpAnyH_take (i := 4) (oi := ?o4r2) (v := ?v4r2) ?h4r2 (by kernel_rfl) ?f4r2 ?r4r2 (fun _ _ _ h => h) (Or.inl ⟨?w4r2, ?y4r2⟩) (by assumption) ?t4r2
  case h4r2 => simp only [List.getElem?_toArray]; rfl
  case f4r2 => kernel_rfl
  case r4r2 => kernel_rfl
  case w4r2 => rfl
  case y4r2 => (intro u hu; (go_simp) <;> with_reducible rfl)
  try simp only [Act.put, List.setIfInBounds_toArray, List.set_cons_zero, List.set_cons_succ]
  refine wpAnyH_take (i := 5) (oi := ?o5r2) (v := ?v5r2) ?h5r2 (by kernel_rfl) ?f5r2 ?r5r2 (fun _ _ _ h => h) (Or.inl ⟨?w5r2, ?y5r2⟩) (by assumption) ?t5r2
  case h5r2 => simp only [List.getElem?_toArray]; rfl
  case f5r2 => kernel_rfl
  case r5r2 => kernel_rfl
  case w5r2 => rfl
  case y5r2 => (intro u hu; (have hx := ud u (Ext.up7 hT0 hu); go_simp) <;> with_reducible rfl)
  try simp only [Act.put, List.setIfInBounds_toArray, List.set_cons_zero, List.set_cons_succ]
  refine wpAnyH_take (i := 6) (oi := ?o6r2) (v := ?v6r2) ?h6r2 (by kernel_rfl) ?f6r2 ?r6r2 (fun _ _ _ h => h) (Or.inl ⟨?w6r2, ?y6r2⟩) (by assumption) ?t6r2
  case h6r2 => simp only [List.getElem?_toArray]; rfl
  case f6r2 => kernel_rfl
  case r6r2 => kernel_rfl
  case w6r2 => rfl
  case y6r2 => (intro u hu; (go_simp) <;> with_reducible rfl)
  try simp only [Act.put, List.setIfInBounds_toArray, List.set_cons_zero, List.set_cons_succ]
  refine wpAnyH_take (i := 7) (oi := ?o7r2) (v := ?v7r2) ?h7r2 (by kernel_rfl) ?f7r2 ?r7r2 (fun _ _ _ h => h) (Or.inl ⟨?w7r2, ?y7r2⟩) (by assumption) ?t7r2
  case h7r2 => simp only [List.getElem?_toArray]; rfl
  case f7r2 => kernel_rfl
  case r7r2 => kernel_rfl
  case w7r2 => rfl
  case y7r2 => (intro u hu; (go_simp) <;> with_reducible rfl)
  try simp only [Act.put, List.setIfInBounds_toArray, List.set_cons_zero, List.set_cons_succ]
  refine wpAnyH_ready (rs := [8]) (by kernel_rfl) (by simp) ?_
  refine AllReadyH.cons (o := ?o8r2) ?h8r2 (fun K hK => ?_) AllReadyH.nil
  case h8r2 => simp only [List.getElem?_toArray]; rfl
  go_simp
  refine (rturn7_16_c _ (xr7_w (a := d) (b := a1) ⟨d0, d9⟩ ⟨a10, a19⟩) _).mono ?_
  rintro e V1 ⟨d1, rfl, HD1, hd1, hb⟩
  refine hK.out _ _ (hH.trans hb) (fun hH' => ?_)
  clear hK K hH
  have hH := hH'
  clear hH'
  try simp only [List.setIfInBounds_toArray, List.set]
  refine wpAnyH_take (i := 9) (oi := ?o9r2) (v := ?v9r2) ?h9r2 (by kernel_rfl) ?f9r2 ?r9r2 (fun _ _ _ h => h) (Or.inl ⟨?w9r2, ?y9r2⟩) (by assumption) ?t9r2
  case h9r2 => simp only [List.getElem?_toArray]; rfl
  case f9r2 => kernel_rfl
  case r9r2 => kernel_rfl
  case w9r2 => rfl
  case y9r2 => (intro u hu; (go_simp) <;> with_reducible rfl)
  try simp only [Act.put, List.setIfInBounds_toArray, List.set_cons_zero, List.set_cons_succ]
  refine wpAnyH_done (by kernel_rfl) ?_ _
  refine NoPanic.normal ?_
  have hT1 : Ext W V1 := Ext.up7 hT0 hH
  clear hH hb
  obtain ⟨d10, d19⟩ := hd1
  obtain ⟨c1, hc1⟩ : ∃ z, IntKind.u32.wrap (c + d1) = z := ⟨_, rfl⟩
  have HC1 : Hid (c1 = ad7 c d1) := by unfold Hid; rw [← hc1, IntKind.wrap_u32']; rfl
  have hwc1 : W7 c1 := by rw [HC1.out]; exact ad7_w _ _
  obtain ⟨c10, c19⟩ := hwc1
  clear ud
  go_upto_region 3 with fail
  refine wp_region_noPanic ?_
  refine wp_region_held_drew (S := Ext V1) (by kernel_rfl) (Ext.refl _).drew (fun hH => ?_)
  change wpAnyH _ _ _ _ _ _ #[false, false, false, false, false, false, false, false, false] _ _
  refine wpAnyH_take (i := 0) (oi := ?o0r3) (v := ?v0r3) ?h0r3 (by kernel_rfl) ?f0r3 ?r0r3 (fun _ _ _ h => h) (Or.inl ⟨?w0r3, ?y0r3⟩) (by assumption) ?t0r3
  case h0r3 => simp only [List.getElem?_toArray]; rfl
  case f0r3 => kernel_rfl
  case r0r3 => kernel_rfl
  case w0r3 => rfl
  case y0r3 => (intro u hu; (go_simp) <;> with_reducible rfl)
  try simp only [Act.put, List.setIfInBounds_toArray, List.set_cons_zero, List.set_cons_succ]
  refine wpAnyH_take (i := 1) (oi := ?o1r3) (v := ?v1r3) ?h1r3 (by kernel_rfl) ?f1r3 ?r1r3 (fun _ _ _ h => h) (Or.inl ⟨?w1r3, ?y1r3⟩) (by assumption) ?t1r3
  case h1r3 => simp only [List.getElem?_toArray]; rfl
  case f1r3 => kernel_rfl
  case r1r3 => kernel_rfl
  case w1r3 => rfl
  case y1r3 => (intro u hu; (go_simp) <;> with_reducible rfl)
  try simp only [Act.put, List.setIfInBounds_toArray, List.set_cons_zero, List.set_cons_succ]
  refine wpAnyH_take (i := 2) (oi := ?o2r3) (v := ?v2r3) ?h2r3 (by kernel_rfl) ?f2r3 ?r2r3 (fun _ _ _ h => h) (Or.inl ⟨?w2r3, ?y2r3⟩) (by assumption) ?t2r3
  case h2r3 => simp only [List.getElem?_toArray]; rfl
  case f2r3 => kernel_rfl
  case r2r3 => kernel_rfl
  case w2r3 => rfl
  case y2r3 => (intro u hu; (have hx := vk u (Ext.extB (Ext.up7 hT1 hu) bv); go_simp) <;> with_reducible rfl)
  try simp only [Act.put, List.setIfInBounds_toArray, List.set_cons_zero, List.set_cons_succ]
  refine wpAnyH_take (i := 3) (oi := ?o3r3) (v := ?v3r3) ?h3r3 (by kernel_rfl) ?f3r3 ?r3r3 (fun _ _ _ h => h) (Or.inl ⟨?w3r3, ?y3r3⟩) (by assumption) ?t3r3
  case h3r3 => simp only [List.getElem?_toArray]; rfl
  case f3r3 => kernel_rfl
  case r3r3 => kernel_rfl
  case w3r3 => rfl
  case y3r3 => (intro u hu; (go_simp) <;> with_reducible rfl)
  try simp only [Act.put, List.setIfInBounds_toArray, List.set_cons_zero, List.set_cons_succ]
  refine wpAnyH_take (i := 4) (oi := ?o4r3) (v := ?v4r3) ?h4r3 (by kernel_rfl) ?f4r3 ?r4r3 (fun _ _ _ h => h) (Or.inl ⟨?w4r3, ?y4r3⟩) (by assumption) ?t4r3
  case h4r3 => simp only [List.getElem?_toArray]; rfl
  case f4r3 => kernel_rfl
  case r4r3 => kernel_rfl
  case w4r3 => rfl
  case y4r3 => (intro u hu; (go_simp) <;> with_reducible rfl)
  try simp only [Act.put, List.setIfInBounds_toArray, List.set_cons_zero, List.set_cons_succ]
  refine wpAnyH_take (i := 5) (oi := ?o5r3) (v := ?v5r3) ?h5r3 (by kernel_rfl) ?f5r3 ?r5r3 (fun _ _ _ h => h) (Or.inl ⟨?w5r3, ?y5r3⟩) (by assumption) ?t5r3
  case h5r3 => simp only [List.getElem?_toArray]; rfl
  case f5r3 => kernel_rfl
  case r5r3 => kernel_rfl
  case w5r3 => rfl
  case y5r3 => (intro u hu; (have hx := uc u (Ext.up7 hT1 hu); go_simp) <;> with_reducible rfl)
  try simp only [Act.put, List.setIfInBounds_toArray, List.set_cons_zero, List.set_cons_succ]
  refine wpAnyH_take (i := 6) (oi := ?o6r3) (v := ?v6r3) ?h6r3 (by kernel_rfl) ?f6r3 ?r6r3 (fun _ _ _ h => h) (Or.inl ⟨?w6r3, ?y6r3⟩) (by assumption) ?t6r3
  case h6r3 => simp only [List.getElem?_toArray]; rfl
  case f6r3 => kernel_rfl
  case r6r3 => kernel_rfl
  case w6r3 => rfl
  case y6r3 => (intro u hu; (go_simp) <;> with_reducible rfl)
  try simp only [Act.put, List.setIfInBounds_toArray, List.set_cons_zero, List.set_cons_succ]
  refine wpAnyH_take (i := 7) (oi := ?o7r3) (v := ?v7r3) ?h7r3 (by kernel_rfl) ?f7r3 ?r7r3 (fun _ _ _ h => h) (Or.inl ⟨?w7r3, ?y7r3⟩) (by assumption) ?t7r3
  case h7r3 => simp only [List.getElem?_toArray]; rfl
  case f7r3 => kernel_rfl
  case r7r3 => kernel_rfl
  case w7r3 => rfl
  case y7r3 => (intro u hu; (go_simp) <;> with_reducible rfl)
  try simp only [Act.put, List.setIfInBounds_toArray, List.set_cons_zero, List.set_cons_succ]
  refine wpAnyH_take (i := 8) (oi := ?o8r3) (v := ?v8r3) ?h8r3 (by kernel_rfl) ?f8r3 ?r8r3 (fun _ _ _ h => h) (Or.inl ⟨?w8r3, ?y8r3⟩) (by assumption) ?t8r3
  case h8r3 => simp only [List.getElem?_toArray]; rfl
  case f8r3 => kernel_rfl
  case r8r3 => kernel_rfl
  case w8r3 => rfl
  case y8r3 => (intro u hu; (go_simp) <;> with_reducible rfl)
  try simp only [Act.put, List.setIfInBounds_toArray, List.set_cons_zero, List.set_cons_succ]
  refine wpAnyH_done (by kernel_rfl) ?_ _
  refine NoPanic.normal ?_
  obtain ⟨V5, hV5⟩ : ∃ V, V = V1.drew := ⟨_, rfl⟩
  rw [← hV5] at hH ⊢
  have hT5 : Ext W V5 := Ext.up7 hT1 hH
  clear hH hV5
  clear hc1 uc
  go_upto_region 4 with fail
  refine wp_region_noPanic ?_
  refine wp_region_held_drew (S := Ext V5) (by kernel_rfl) (Ext.refl _).drew (fun hH => ?_)
  change wpAnyH _ _ _ _ _ _ #[false, false, false, false, false, false, false, false, false, false] _ _
  refine wpAnyH_take (i := 0) (oi := ?o0r4) (v := ?v0r4) ?h0r4 (by kernel_rfl) ?f0r4 ?r0r4 (fun _ _ _ h => h) (Or.inl ⟨?w0r4, ?y0r4⟩) (by assumption) ?t0r4
  case h0r4 => simp only [List.getElem?_toArray]; rfl
  case f0r4 => kernel_rfl
  case r0r4 => kernel_rfl
  case w0r4 => rfl
  case y0r4 => (intro u hu; (go_simp) <;> with_reducible rfl)
  try simp only [Act.put, List.setIfInBounds_toArray, List.set_cons_zero, List.set_cons_succ]
  refine wpAnyH_take (i := 1) (oi := ?o1r4) (v := ?v1r4) ?h1r4 (by kernel_rfl) ?f1r4 ?r1r4 (fun _ _ _ h => h) (Or.inl ⟨?w1r4, ?y1r4⟩) (by assumption) ?t1r4
  case h1r4 => simp only [List.getElem?_toArray]; rfl
  case f1r4 => kernel_rfl
  case r1r4 => kernel_rfl
  case w1r4 => rfl
  case y1r4 => (intro u hu; (go_simp) <;> with_reducible rfl)
  try simp only [Act.put, List.setIfInBounds_toArray, List.set_cons_zero, List.set_cons_succ]
  refine wpAnyH_take (i := 2) (oi := ?o2r4) (v := ?v2r4) ?h2r4 (by kernel_rfl) ?f2r4 ?r2r4 (fun _ _ _ h => h) (Or.inl ⟨?w2r4, ?y2r4⟩) (by assumption) ?t2r4
  case h2r4 => simp only [List.getElem?_toArray]; rfl
  case f2r4 => kernel_rfl
  case r2r4 => kernel_rfl
  case w2r4 => rfl
  case y2r4 => (intro u hu; (have hx := vj u (Ext.extB (Ext.up7 hT5 hu) bv); go_simp) <;> with_reducible rfl)
  try simp only [Act.put, List.setIfInBounds_toArray, List.set_cons_zero, List.set_cons_succ]
  refine wpAnyH_take (i := 3) (oi := ?o3r4) (v := ?v3r4) ?h3r4 (by kernel_rfl) ?f3r4 ?r3r4 (fun _ _ _ h => h) (Or.inl ⟨?w3r4, ?y3r4⟩) (by assumption) ?t3r4
  case h3r4 => simp only [List.getElem?_toArray]; rfl
  case f3r4 => kernel_rfl
  case r3r4 => kernel_rfl
  case w3r4 => rfl
  case y3r4 => (intro u hu; (go_simp) <;> with_reducible rfl)
  try simp only [Act.put, List.setIfInBounds_toArray, List.set_cons_zero, List.set_cons_succ]
  refine wpAnyH_take (i := 4) (oi := ?o4r4) (v := ?v4r4) ?h4r4 (by kernel_rfl) ?f4r4 ?r4r4 (fun _ _ _ h => h) (Or.inl ⟨?w4r4, ?y4r4⟩) (by assumption) ?t4r4
  case h4r4 => simp only [List.getElem?_toArray]; rfl
  case f4r4 => kernel_rfl
  case r4r4 => kernel_rfl
  case w4r4 => rfl
  case y4r4 => (intro u hu; (go_simp) <;> with_reducible rfl)
  try simp only [Act.put, List.setIfInBounds_toArray, List.set_cons_zero, List.set_cons_succ]
  refine wpAnyH_take (i := 5) (oi := ?o5r4) (v := ?v5r4) ?h5r4 (by kernel_rfl) ?f5r4 ?r5r4 (fun _ _ _ h => h) (Or.inl ⟨?w5r4, ?y5r4⟩) (by assumption) ?t5r4
  case h5r4 => simp only [List.getElem?_toArray]; rfl
  case f5r4 => kernel_rfl
  case r5r4 => kernel_rfl
  case w5r4 => rfl
  case y5r4 => (intro u hu; (have hx := ub u (Ext.up7 hT5 hu); go_simp) <;> with_reducible rfl)
  try simp only [Act.put, List.setIfInBounds_toArray, List.set_cons_zero, List.set_cons_succ]
  refine wpAnyH_take (i := 6) (oi := ?o6r4) (v := ?v6r4) ?h6r4 (by kernel_rfl) ?f6r4 ?r6r4 (fun _ _ _ h => h) (Or.inl ⟨?w6r4, ?y6r4⟩) (by assumption) ?t6r4
  case h6r4 => simp only [List.getElem?_toArray]; rfl
  case f6r4 => kernel_rfl
  case r6r4 => kernel_rfl
  case w6r4 => rfl
  case y6r4 => (intro u hu; (go_simp) <;> with_reducible rfl)
  try simp only [Act.put, List.setIfInBounds_toArray, List.set_cons_zero, List.set_cons_succ]
  refine wpAnyH_take (i := 7) (oi := ?o7r4) (v := ?v7r4) ?h7r4 (by kernel_rfl) ?f7r4 ?r7r4 (fun _ _ _ h => h) (Or.inl ⟨?w7r4, ?y7r4⟩) (by assumption) ?t7r4
  case h7r4 => simp only [List.getElem?_toArray]; rfl
  case f7r4 => kernel_rfl
  case r7r4 => kernel_rfl
  case w7r4 => rfl
  case y7r4 => (intro u hu; (go_simp) <;> with_reducible rfl)
  try simp only [Act.put, List.setIfInBounds_toArray, List.set_cons_zero, List.set_cons_succ]
  refine wpAnyH_ready (rs := [8]) (by kernel_rfl) (by simp) ?_
  refine AllReadyH.cons (o := ?o8r4) ?h8r4 (fun K hK => ?_) AllReadyH.nil
  case h8r4 => simp only [List.getElem?_toArray]; rfl
  go_simp
  refine (rturn7_12_c _ (xr7_w (a := b) (b := c1) ⟨b0, b9⟩ ⟨c10, c19⟩) _).mono ?_
  rintro e V2 ⟨b1, rfl, HB1, hb1, hb⟩
  refine hK.out _ _ (hH.trans hb) (fun hH' => ?_)
  clear hK K hH
  have hH := hH'
  clear hH'
  try simp only [List.setIfInBounds_toArray, List.set]
  refine wpAnyH_take (i := 9) (oi := ?o9r4) (v := ?v9r4) ?h9r4 (by kernel_rfl) ?f9r4 ?r9r4 (fun _ _ _ h => h) (Or.inl ⟨?w9r4, ?y9r4⟩) (by assumption) ?t9r4
  case h9r4 => simp only [List.getElem?_toArray]; rfl
  case f9r4 => kernel_rfl
  case r9r4 => kernel_rfl
  case w9r4 => rfl
  case y9r4 => (intro u hu; (go_simp) <;> with_reducible rfl)
  try simp only [Act.put, List.setIfInBounds_toArray, List.set_cons_zero, List.set_cons_succ]
  refine wpAnyH_done (by kernel_rfl) ?_ _
  refine NoPanic.normal ?_
  have hT2 : Ext W V2 := Ext.up7 hT5 hH
  clear hH hb
  obtain ⟨b10, b19⟩ := hb1
  clear ub
  go_wp2_with fail
  try simp only [Int.emod_add_emod]
  have k3 : 0 ≤ (a1 + b1 + y) % 4294967296 := by omega
  have l3 : (a1 + b1 + y) % 4294967296 < 4294967296 := by omega
  obtain ⟨a2, h3⟩ : ∃ z, z = (a1 + b1 + y) % 4294967296 := ⟨_, rfl⟩
  rw [← h3] at k3 l3 ⊢
  have HA2 : Hid (a2 = ad7 (ad7 a1 b1) y) := by unfold Hid; rw [h3]; exact ad7_two _ _ _
  clear h3
  refine (rturn7_8_c _ (xr7_w (a := d1) (b := a2) ⟨d10, d19⟩ ⟨k3, l3⟩) _).mono ?_
  rintro e V3 ⟨d2, rfl, HD2, ⟨d20, d29⟩, hb⟩
  replace hT2 : Ext W V3 := hT2.trans hb
  clear hb
  go_wp2_with fail
  have k4 : 0 ≤ (c1 + d2) % 4294967296 := by omega
  have l4 : (c1 + d2) % 4294967296 < 4294967296 := by omega
  obtain ⟨c2, h4⟩ : ∃ z, z = (c1 + d2) % 4294967296 := ⟨_, rfl⟩
  rw [← h4] at k4 l4 ⊢
  have HC2 : Hid (c2 = ad7 c1 d2) := h4
  clear h4
  refine (rturn7_7_c _ (xr7_w (a := b1) (b := c2) ⟨b10, b19⟩ ⟨k4, l4⟩) _).mono ?_
  rintro e V4 ⟨b2, rfl, HB2, ⟨b20, b29⟩, hb⟩
  replace hT2 : Ext W V4 := hT2.trans hb
  clear hb
  have HV4 : Hid (Ar V4 bv 16 (List.map (Value.int .u32) L)) := HV.out.later hT2
  have hX : ExtB bv W V4 := hT2.extB bv
  clear HV ca cb cc cd fa fb fc fd hT2
  go_upto_region 9 with fail
  obtain ⟨z0, cz, fz, -, -⟩ := wn_word HV4.out HW.out i hi
  refine wp_region_noPanic ?_
  refine wp_region_held_drew (S := ExtB bv V4) (by kernel_rfl) (ExtB.refl _ _).drew (fun hH => ?_)
  change wpAnyH _ _ _ _ _ _ #[false, false, false, false, false, false, false] _ _
  refine wpAnyH_take (i := 0) (oi := ?o0s9) (v := ?v0s9) ?h0s9 (by kernel_rfl) ?f0s9 ?r0s9 (fun _ _ _ h => h) (Or.inl ⟨?w0s9, ?y0s9⟩) (by assumption) ?t0s9
  case h0s9 => simp only [List.getElem?_toArray]; rfl
  case f0s9 => kernel_rfl
  case r0s9 => kernel_rfl
  case w0s9 => rfl
  case y0s9 => (intro u hu; (go_simp) <;> with_reducible rfl)
  try simp only [Act.put, List.setIfInBounds_toArray, List.set_cons_zero, List.set_cons_succ]
  refine wpAnyH_take (i := 1) (oi := ?o1s9) (v := ?v1s9) ?h1s9 (by kernel_rfl) ?f1s9 ?r1s9 (fun _ _ _ h => h) (Or.inl ⟨?w1s9, ?y1s9⟩) (by assumption) ?t1s9
  case h1s9 => simp only [List.getElem?_toArray]; rfl
  case f1s9 => kernel_rfl
  case r1s9 => kernel_rfl
  case w1s9 => rfl
  case y1s9 => (intro u hu; (go_simp) <;> with_reducible rfl)
  try simp only [Act.put, List.setIfInBounds_toArray, List.set_cons_zero, List.set_cons_succ]
  refine wpAnyH_take (i := 2) (oi := ?o2s9) (v := ?v2s9) ?h2s9 (by kernel_rfl) ?f2s9 ?r2s9 (fun _ _ _ h => h) (Or.inl ⟨?w2s9, ?y2s9⟩) (by assumption) ?t2s9
  case h2s9 => simp only [List.getElem?_toArray]; rfl
  case f2s9 => kernel_rfl
  case r2s9 => kernel_rfl
  case w2s9 => rfl
  case y2s9 => (intro u hu; (have hx := vi u (ExtB.comp hX hu); go_simp) <;> with_reducible rfl)
  try simp only [Act.put, List.setIfInBounds_toArray, List.set_cons_zero, List.set_cons_succ]
  refine wpAnyH_take (i := 3) (oi := ?o3s9) (v := ?v3s9) ?h3s9 (by kernel_rfl) ?f3s9 ?r3s9 (fun _ _ _ h => h) (Or.inl ⟨?w3s9, ?y3s9⟩) (by assumption) ?t3s9
  case h3s9 => simp only [List.getElem?_toArray]; rfl
  case f3s9 => kernel_rfl
  case r3s9 => kernel_rfl
  case w3s9 => rfl
  case y3s9 => (intro u hu; (go_simp) <;> with_reducible rfl)
  try simp only [Act.put, List.setIfInBounds_toArray, List.set_cons_zero, List.set_cons_succ]
  refine wpAnyH_take (i := 4) (oi := ?o4s9) (v := ?v4s9) ?h4s9 (by kernel_rfl) ?f4s9 ?r4s9 (fun _ _ _ h => h) (Or.inl ⟨?w4s9, ?y4s9⟩) (by assumption) ?t4s9
  case h4s9 => simp only [List.getElem?_toArray]; rfl
  case f4s9 => kernel_rfl
  case r4s9 => kernel_rfl
  case w4s9 => rfl
  case y4s9 => (intro u hu; (go_simp) <;> with_reducible rfl)
  try simp only [Act.put, List.setIfInBounds_toArray, List.set_cons_zero, List.set_cons_succ]
  refine wpAnyH_take (i := 5) (oi := ?o5s9) (v := ?v5s9) ?h5s9 (by kernel_rfl) ?f5s9 ?r5s9 (fun _ _ _ h => h) (Or.inl ⟨?w5s9, ?y5s9⟩) (by assumption) ?t5s9
  case h5s9 => simp only [List.getElem?_toArray]; rfl
  case f5s9 => kernel_rfl
  case r5s9 => kernel_rfl
  case w5s9 => rfl
  case y5s9 => (intro u hu; (go_simp) <;> with_reducible rfl)
  try simp only [Act.put, List.setIfInBounds_toArray, List.set_cons_zero, List.set_cons_succ]
  refine wpAnyH_ready (rs := [6]) (by kernel_rfl) (by simp) ?_
  refine AllReadyH.cons (o := ?o6s9) ?h6s9 (fun K hK => ?_) AllReadyH.nil
  case h6s9 => simp only [List.getElem?_toArray]; rfl
  go_simp
  refine hK.out _ _ (hH.set i _) (fun hH' => ?_)
  clear hK K hH
  have hH := hH'
  clear hH'
  try simp only [List.setIfInBounds_toArray, List.set]
  refine wpAnyH_done (by kernel_rfl) ?_ _
  refine NoPanic.normal ?_
  have HV5 : Hid (Ar (V4.setCell ⟨bv, i, none⟩ (.int .u32 a2)).drew bv 16 (List.map (Value.int .u32) (L.set i a2))) := by unfold Hid; rw [List.map_set]; exact (HV4.out.set i hi _).drew
  obtain ⟨U1, hnew⟩ : ∃ V, V = (V4.setCell ⟨bv, i, none⟩ (.int .u32 a2)).drew := ⟨_, rfl⟩
  rw [← hnew] at HV5 hH ⊢
  replace hX : ExtB bv W U1 := ExtB.comp hX hH
  clear HV4
  have HV4 := HV5
  clear HV5 hnew hH cz fz
  go_upto_region 10 with fail
  obtain ⟨z0, cz, fz, -, -⟩ := wn_word HV4.out (HW.out.set i ⟨k3, l3⟩) j hj
  refine wp_region_noPanic ?_
  refine wp_region_held_drew (S := ExtB bv U1) (by kernel_rfl) (ExtB.refl _ _).drew (fun hH => ?_)
  change wpAnyH _ _ _ _ _ _ #[false, false, false, false, false, false, false] _ _
  refine wpAnyH_take (i := 0) (oi := ?o0s10) (v := ?v0s10) ?h0s10 (by kernel_rfl) ?f0s10 ?r0s10 (fun _ _ _ h => h) (Or.inl ⟨?w0s10, ?y0s10⟩) (by assumption) ?t0s10
  case h0s10 => simp only [List.getElem?_toArray]; rfl
  case f0s10 => kernel_rfl
  case r0s10 => kernel_rfl
  case w0s10 => rfl
  case y0s10 => (intro u hu; (go_simp) <;> with_reducible rfl)
  try simp only [Act.put, List.setIfInBounds_toArray, List.set_cons_zero, List.set_cons_succ]
  refine wpAnyH_take (i := 1) (oi := ?o1s10) (v := ?v1s10) ?h1s10 (by kernel_rfl) ?f1s10 ?r1s10 (fun _ _ _ h => h) (Or.inl ⟨?w1s10, ?y1s10⟩) (by assumption) ?t1s10
  case h1s10 => simp only [List.getElem?_toArray]; rfl
  case f1s10 => kernel_rfl
  case r1s10 => kernel_rfl
  case w1s10 => rfl
  case y1s10 => (intro u hu; (go_simp) <;> with_reducible rfl)
  try simp only [Act.put, List.setIfInBounds_toArray, List.set_cons_zero, List.set_cons_succ]
  refine wpAnyH_take (i := 2) (oi := ?o2s10) (v := ?v2s10) ?h2s10 (by kernel_rfl) ?f2s10 ?r2s10 (fun _ _ _ h => h) (Or.inl ⟨?w2s10, ?y2s10⟩) (by assumption) ?t2s10
  case h2s10 => simp only [List.getElem?_toArray]; rfl
  case f2s10 => kernel_rfl
  case r2s10 => kernel_rfl
  case w2s10 => rfl
  case y2s10 => (intro u hu; (have hx := vj u (ExtB.comp hX hu); go_simp) <;> with_reducible rfl)
  try simp only [Act.put, List.setIfInBounds_toArray, List.set_cons_zero, List.set_cons_succ]
  refine wpAnyH_take (i := 3) (oi := ?o3s10) (v := ?v3s10) ?h3s10 (by kernel_rfl) ?f3s10 ?r3s10 (fun _ _ _ h => h) (Or.inl ⟨?w3s10, ?y3s10⟩) (by assumption) ?t3s10
  case h3s10 => simp only [List.getElem?_toArray]; rfl
  case f3s10 => kernel_rfl
  case r3s10 => kernel_rfl
  case w3s10 => rfl
  case y3s10 => (intro u hu; (go_simp) <;> with_reducible rfl)
  try simp only [Act.put, List.setIfInBounds_toArray, List.set_cons_zero, List.set_cons_succ]
  refine wpAnyH_take (i := 4) (oi := ?o4s10) (v := ?v4s10) ?h4s10 (by kernel_rfl) ?f4s10 ?r4s10 (fun _ _ _ h => h) (Or.inl ⟨?w4s10, ?y4s10⟩) (by assumption) ?t4s10
  case h4s10 => simp only [List.getElem?_toArray]; rfl
  case f4s10 => kernel_rfl
  case r4s10 => kernel_rfl
  case w4s10 => rfl
  case y4s10 => (intro u hu; (go_simp) <;> with_reducible rfl)
  try simp only [Act.put, List.setIfInBounds_toArray, List.set_cons_zero, List.set_cons_succ]
  refine wpAnyH_take (i := 5) (oi := ?o5s10) (v := ?v5s10) ?h5s10 (by kernel_rfl) ?f5s10 ?r5s10 (fun _ _ _ h => h) (Or.inl ⟨?w5s10, ?y5s10⟩) (by assumption) ?t5s10
  case h5s10 => simp only [List.getElem?_toArray]; rfl
  case f5s10 => kernel_rfl
  case r5s10 => kernel_rfl
  case w5s10 => rfl
  case y5s10 => (intro u hu; (go_simp) <;> with_reducible rfl)
  try simp only [Act.put, List.setIfInBounds_toArray, List.set_cons_zero, List.set_cons_succ]
  refine wpAnyH_ready (rs := [6]) (by kernel_rfl) (by simp) ?_
  refine AllReadyH.cons (o := ?o6s10) ?h6s10 (fun K hK => ?_) AllReadyH.nil
  case h6s10 => simp only [List.getElem?_toArray]; rfl
  go_simp
  refine hK.out _ _ (hH.set j _) (fun hH' => ?_)
  clear hK K hH
  have hH := hH'
  clear hH'
  try simp only [List.setIfInBounds_toArray, List.set]
  refine wpAnyH_done (by kernel_rfl) ?_ _
  refine NoPanic.normal ?_
  have HV5 : Hid (Ar (U1.setCell ⟨bv, j, none⟩ (.int .u32 b2)).drew bv 16 (List.map (Value.int .u32) ((L.set i a2).set j b2))) := by unfold Hid; rw [List.map_set]; exact (HV4.out.set j hj _).drew
  obtain ⟨U2, hnew⟩ : ∃ V, V = (U1.setCell ⟨bv, j, none⟩ (.int .u32 b2)).drew := ⟨_, rfl⟩
  rw [← hnew] at HV5 hH ⊢
  replace hX : ExtB bv W U2 := ExtB.comp hX hH
  clear HV4
  have HV4 := HV5
  clear HV5 hnew hH cz fz
  go_upto_region 11 with fail
  obtain ⟨z0, cz, fz, -, -⟩ := wn_word HV4.out ((HW.out.set i ⟨k3, l3⟩).set j ⟨b20, b29⟩) k hk
  refine wp_region_noPanic ?_
  refine wp_region_held_drew (S := ExtB bv U2) (by kernel_rfl) (ExtB.refl _ _).drew (fun hH => ?_)
  change wpAnyH _ _ _ _ _ _ #[false, false, false, false, false, false, false] _ _
  refine wpAnyH_take (i := 0) (oi := ?o0s11) (v := ?v0s11) ?h0s11 (by kernel_rfl) ?f0s11 ?r0s11 (fun _ _ _ h => h) (Or.inl ⟨?w0s11, ?y0s11⟩) (by assumption) ?t0s11
  case h0s11 => simp only [List.getElem?_toArray]; rfl
  case f0s11 => kernel_rfl
  case r0s11 => kernel_rfl
  case w0s11 => rfl
  case y0s11 => (intro u hu; (go_simp) <;> with_reducible rfl)
  try simp only [Act.put, List.setIfInBounds_toArray, List.set_cons_zero, List.set_cons_succ]
  refine wpAnyH_take (i := 1) (oi := ?o1s11) (v := ?v1s11) ?h1s11 (by kernel_rfl) ?f1s11 ?r1s11 (fun _ _ _ h => h) (Or.inl ⟨?w1s11, ?y1s11⟩) (by assumption) ?t1s11
  case h1s11 => simp only [List.getElem?_toArray]; rfl
  case f1s11 => kernel_rfl
  case r1s11 => kernel_rfl
  case w1s11 => rfl
  case y1s11 => (intro u hu; (go_simp) <;> with_reducible rfl)
  try simp only [Act.put, List.setIfInBounds_toArray, List.set_cons_zero, List.set_cons_succ]
  refine wpAnyH_take (i := 2) (oi := ?o2s11) (v := ?v2s11) ?h2s11 (by kernel_rfl) ?f2s11 ?r2s11 (fun _ _ _ h => h) (Or.inl ⟨?w2s11, ?y2s11⟩) (by assumption) ?t2s11
  case h2s11 => simp only [List.getElem?_toArray]; rfl
  case f2s11 => kernel_rfl
  case r2s11 => kernel_rfl
  case w2s11 => rfl
  case y2s11 => (intro u hu; (have hx := vk u (ExtB.comp hX hu); go_simp) <;> with_reducible rfl)
  try simp only [Act.put, List.setIfInBounds_toArray, List.set_cons_zero, List.set_cons_succ]
  refine wpAnyH_take (i := 3) (oi := ?o3s11) (v := ?v3s11) ?h3s11 (by kernel_rfl) ?f3s11 ?r3s11 (fun _ _ _ h => h) (Or.inl ⟨?w3s11, ?y3s11⟩) (by assumption) ?t3s11
  case h3s11 => simp only [List.getElem?_toArray]; rfl
  case f3s11 => kernel_rfl
  case r3s11 => kernel_rfl
  case w3s11 => rfl
  case y3s11 => (intro u hu; (go_simp) <;> with_reducible rfl)
  try simp only [Act.put, List.setIfInBounds_toArray, List.set_cons_zero, List.set_cons_succ]
  refine wpAnyH_take (i := 4) (oi := ?o4s11) (v := ?v4s11) ?h4s11 (by kernel_rfl) ?f4s11 ?r4s11 (fun _ _ _ h => h) (Or.inl ⟨?w4s11, ?y4s11⟩) (by assumption) ?t4s11
  case h4s11 => simp only [List.getElem?_toArray]; rfl
  case f4s11 => kernel_rfl
  case r4s11 => kernel_rfl
  case w4s11 => rfl
  case y4s11 => (intro u hu; (go_simp) <;> with_reducible rfl)
  try simp only [Act.put, List.setIfInBounds_toArray, List.set_cons_zero, List.set_cons_succ]
  refine wpAnyH_take (i := 5) (oi := ?o5s11) (v := ?v5s11) ?h5s11 (by kernel_rfl) ?f5s11 ?r5s11 (fun _ _ _ h => h) (Or.inl ⟨?w5s11, ?y5s11⟩) (by assumption) ?t5s11
  case h5s11 => simp only [List.getElem?_toArray]; rfl
  case f5s11 => kernel_rfl
  case r5s11 => kernel_rfl
  case w5s11 => rfl
  case y5s11 => (intro u hu; (go_simp) <;> with_reducible rfl)
  try simp only [Act.put, List.setIfInBounds_toArray, List.set_cons_zero, List.set_cons_succ]
  refine wpAnyH_ready (rs := [6]) (by kernel_rfl) (by simp) ?_
  refine AllReadyH.cons (o := ?o6s11) ?h6s11 (fun K hK => ?_) AllReadyH.nil
  case h6s11 => simp only [List.getElem?_toArray]; rfl
  go_simp
  refine hK.out _ _ (hH.set k _) (fun hH' => ?_)
  clear hK K hH
  have hH := hH'
  clear hH'
  try simp only [List.setIfInBounds_toArray, List.set]
  refine wpAnyH_done (by kernel_rfl) ?_ _
  refine NoPanic.normal ?_
  have HV5 : Hid (Ar (U2.setCell ⟨bv, k, none⟩ (.int .u32 c2)).drew bv 16 (List.map (Value.int .u32) (((L.set i a2).set j b2).set k c2))) := by unfold Hid; rw [List.map_set]; exact (HV4.out.set k hk _).drew
  obtain ⟨U3, hnew⟩ : ∃ V, V = (U2.setCell ⟨bv, k, none⟩ (.int .u32 c2)).drew := ⟨_, rfl⟩
  rw [← hnew] at HV5 hH ⊢
  replace hX : ExtB bv W U3 := ExtB.comp hX hH
  clear HV4
  have HV4 := HV5
  clear HV5 hnew hH cz fz
  go_upto_region 12 with fail
  obtain ⟨z0, cz, fz, -, -⟩ := wn_word HV4.out (((HW.out.set i ⟨k3, l3⟩).set j ⟨b20, b29⟩).set k ⟨k4, l4⟩) l hl
  refine wp_region_noPanic ?_
  refine wp_region_held_drew (S := ExtB bv U3) (by kernel_rfl) (ExtB.refl _ _).drew (fun hH => ?_)
  change wpAnyH _ _ _ _ _ _ #[false, false, false, false, false, false, false] _ _
  refine wpAnyH_take (i := 0) (oi := ?o0s12) (v := ?v0s12) ?h0s12 (by kernel_rfl) ?f0s12 ?r0s12 (fun _ _ _ h => h) (Or.inl ⟨?w0s12, ?y0s12⟩) (by assumption) ?t0s12
  case h0s12 => simp only [List.getElem?_toArray]; rfl
  case f0s12 => kernel_rfl
  case r0s12 => kernel_rfl
  case w0s12 => rfl
  case y0s12 => (intro u hu; (go_simp) <;> with_reducible rfl)
  try simp only [Act.put, List.setIfInBounds_toArray, List.set_cons_zero, List.set_cons_succ]
  refine wpAnyH_take (i := 1) (oi := ?o1s12) (v := ?v1s12) ?h1s12 (by kernel_rfl) ?f1s12 ?r1s12 (fun _ _ _ h => h) (Or.inl ⟨?w1s12, ?y1s12⟩) (by assumption) ?t1s12
  case h1s12 => simp only [List.getElem?_toArray]; rfl
  case f1s12 => kernel_rfl
  case r1s12 => kernel_rfl
  case w1s12 => rfl
  case y1s12 => (intro u hu; (go_simp) <;> with_reducible rfl)
  try simp only [Act.put, List.setIfInBounds_toArray, List.set_cons_zero, List.set_cons_succ]
  refine wpAnyH_take (i := 2) (oi := ?o2s12) (v := ?v2s12) ?h2s12 (by kernel_rfl) ?f2s12 ?r2s12 (fun _ _ _ h => h) (Or.inl ⟨?w2s12, ?y2s12⟩) (by assumption) ?t2s12
  case h2s12 => simp only [List.getElem?_toArray]; rfl
  case f2s12 => kernel_rfl
  case r2s12 => kernel_rfl
  case w2s12 => rfl
  case y2s12 => (intro u hu; (have hx := vl u (ExtB.comp hX hu); go_simp) <;> with_reducible rfl)
  try simp only [Act.put, List.setIfInBounds_toArray, List.set_cons_zero, List.set_cons_succ]
  refine wpAnyH_take (i := 3) (oi := ?o3s12) (v := ?v3s12) ?h3s12 (by kernel_rfl) ?f3s12 ?r3s12 (fun _ _ _ h => h) (Or.inl ⟨?w3s12, ?y3s12⟩) (by assumption) ?t3s12
  case h3s12 => simp only [List.getElem?_toArray]; rfl
  case f3s12 => kernel_rfl
  case r3s12 => kernel_rfl
  case w3s12 => rfl
  case y3s12 => (intro u hu; (go_simp) <;> with_reducible rfl)
  try simp only [Act.put, List.setIfInBounds_toArray, List.set_cons_zero, List.set_cons_succ]
  refine wpAnyH_take (i := 4) (oi := ?o4s12) (v := ?v4s12) ?h4s12 (by kernel_rfl) ?f4s12 ?r4s12 (fun _ _ _ h => h) (Or.inl ⟨?w4s12, ?y4s12⟩) (by assumption) ?t4s12
  case h4s12 => simp only [List.getElem?_toArray]; rfl
  case f4s12 => kernel_rfl
  case r4s12 => kernel_rfl
  case w4s12 => rfl
  case y4s12 => (intro u hu; (go_simp) <;> with_reducible rfl)
  try simp only [Act.put, List.setIfInBounds_toArray, List.set_cons_zero, List.set_cons_succ]
  refine wpAnyH_take (i := 5) (oi := ?o5s12) (v := ?v5s12) ?h5s12 (by kernel_rfl) ?f5s12 ?r5s12 (fun _ _ _ h => h) (Or.inl ⟨?w5s12, ?y5s12⟩) (by assumption) ?t5s12
  case h5s12 => simp only [List.getElem?_toArray]; rfl
  case f5s12 => kernel_rfl
  case r5s12 => kernel_rfl
  case w5s12 => rfl
  case y5s12 => (intro u hu; (go_simp) <;> with_reducible rfl)
  try simp only [Act.put, List.setIfInBounds_toArray, List.set_cons_zero, List.set_cons_succ]
  refine wpAnyH_ready (rs := [6]) (by kernel_rfl) (by simp) ?_
  refine AllReadyH.cons (o := ?o6s12) ?h6s12 (fun K hK => ?_) AllReadyH.nil
  case h6s12 => simp only [List.getElem?_toArray]; rfl
  go_simp
  refine hK.out _ _ (hH.set l _) (fun hH' => ?_)
  clear hK K hH
  have hH := hH'
  clear hH'
  try simp only [List.setIfInBounds_toArray, List.set]
  refine wpAnyH_done (by kernel_rfl) ?_ _
  refine NoPanic.normal ?_
  have HV5 : Hid (Ar (U3.setCell ⟨bv, l, none⟩ (.int .u32 d2)).drew bv 16 (List.map (Value.int .u32) ((((L.set i a2).set j b2).set k c2).set l d2))) := by unfold Hid; rw [List.map_set]; exact (HV4.out.set l hl _).drew
  obtain ⟨U4, hnew⟩ : ∃ V, V = (U3.setCell ⟨bv, l, none⟩ (.int .u32 d2)).drew := ⟨_, rfl⟩
  rw [← hnew] at HV5 hH ⊢
  replace hX : ExtB bv W U4 := ExtB.comp hX hH
  clear HV4
  have HV4 := HV5
  clear HV5 hnew hH cz fz
  go_end0
  refine ⟨rfl, ?_, HE.out.comp hX⟩
  unfold Hid
  have hq := mg7_of HA1.out HD1.out HC1.out HB1.out HA2.out HD2.out HC2.out HB2.out
  unfold bg7
  rw [← HA.out, ← HB.out, ← HC.out, ← HD.out, ← hq]
  exact HV4.out
end Go.Proofs.YtmibjgkakolhiaaDoor
