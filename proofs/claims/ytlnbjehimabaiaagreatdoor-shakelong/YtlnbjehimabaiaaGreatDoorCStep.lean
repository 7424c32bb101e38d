/-
 What curve's step does: a double and a sum of fractions. No statement of the seat is proved here.
-/
import Derived.Test.YtlnbjehimabaiaaGreatDoorPk1
import Derived.Test.YtlnbjehimabaiaaGreatDoorPk26
namespace Go.Proofs.YtlnbjehimabaiaaGreatDoor.Fc
open Go.RowKit
set_option maxRecDepth 8000

/-- The ladder's steps. -/
def sq (x : Int) : Int := fm x x
def dbX (x z : Int) : Int := fm (sq (fa x z)) (sq (fs x z))
def dbZ (x z : Int) : Int := dbz (sq (fa x z)) (sq (fs x z))
def adX (x2 z2 x3 z3 : Int) : Int := sq (fa (fm (fs x3 z3) (fa x2 z2)) (fm (fa x3 z3) (fs x2 z2)))
def adZ (s x2 z2 x3 z3 : Int) : Int := fm s (sq (fs (fm (fs x3 z3) (fa x2 z2)) (fm (fa x3 z3) (fs x2 z2))))

set_option maxHeartbeats 4000000 in
theorem step_c (x2 z2 x3 z3 s : Int) (hx2 : El x2) (hz2 : El z2) (hx3 : El x3) (hz3 : El z3) (hs : El s) (w : World) :
  Calls Tryz.prog 69 #[(.agg #[.int .u64 (e0 x2), .int .u64 (e1 x2), .int .u64 (e2 x2), .int .u64 (e3 x2), .int .u64 (e0 z2), .int .u64 (e1 z2), .int .u64 (e2 z2), .int .u64 (e3 z2)]), (.agg #[.int .u64 (e0 x3), .int .u64 (e1 x3), .int .u64 (e2 x3), .int .u64 (e3 x3), .int .u64 (e0 z3), .int .u64 (e1 z3), .int .u64 (e2 z3), .int .u64 (e3 z3)]), (.agg (ea s))] w fun e w' => ∃ a b c d, e = .returned (.tuple #[(.agg #[.int .u64 (e0 a), .int .u64 (e1 a), .int .u64 (e2 a), .int .u64 (e3 a), .int .u64 (e0 b), .int .u64 (e1 b), .int .u64 (e2 b), .int .u64 (e3 b)]), (.agg #[.int .u64 (e0 c), .int .u64 (e1 c), .int .u64 (e2 c), .int .u64 (e3 c), .int .u64 (e0 d), .int .u64 (e1 d), .int .u64 (e2 d), .int .u64 (e3 d)])]) ∧ El a ∧ El b ∧ El c ∧ El d ∧ Hid (a = dbX x2 z2 ∧ b = dbZ x2 z2 ∧ c = adX x2 z2 x3 z3 ∧ d = adZ s x2 z2 x3 z3) ∧ Below w.heap.size w w' := by
 go_enter Tryz.func69, Tryz.ntmps69
 go_upto_region 1 with fail
 have HB : Hid (Below w.heap.size w (((((w.alloc (.cells #[.int .u64 (e0 x2), .int .u64 (e1 x2), .int .u64 (e2 x2), .int .u64 (e3 x2), .int .u64 (e0 z2), .int .u64 (e1 z2), .int .u64 (e2 z2), .int .u64 (e3 z2)] 105)).alloc (.cells #[.int .u64 (e0 x3), .int .u64 (e1 x3), .int .u64 (e2 x3), .int .u64 (e3 x3), .int .u64 (e0 z3), .int .u64 (e1 z3), .int .u64 (e2 z3), .int .u64 (e3 z3)] 105)).alloc (.cells (ea s) 101)).alloc (.cells #[.int .u64 0, .int .u64 0, .int .u64 0, .int .u64 0, .int .u64 0, .int .u64 0, .int .u64 0, .int .u64 0] 105)).alloc (.cells #[.int .u64 0, .int .u64 0, .int .u64 0, .int .u64 0, .int .u64 0, .int .u64 0, .int .u64 0, .int .u64 0] 105))) := bel5 _ _ _ _ _ _
 have F3 : Hid (Fr (((((w.alloc (.cells #[.int .u64 (e0 x2), .int .u64 (e1 x2), .int .u64 (e2 x2), .int .u64 (e3 x2), .int .u64 (e0 z2), .int .u64 (e1 z2), .int .u64 (e2 z2), .int .u64 (e3 z2)] 105)).alloc (.cells #[.int .u64 (e0 x3), .int .u64 (e1 x3), .int .u64 (e2 x3), .int .u64 (e3 x3), .int .u64 (e0 z3), .int .u64 (e1 z3), .int .u64 (e2 z3), .int .u64 (e3 z3)] 105)).alloc (.cells (ea s) 101)).alloc (.cells #[.int .u64 0, .int .u64 0, .int .u64 0, .int .u64 0, .int .u64 0, .int .u64 0, .int .u64 0, .int .u64 0] 105)).alloc (.cells #[.int .u64 0, .int .u64 0, .int .u64 0, .int .u64 0, .int .u64 0, .int .u64 0, .int .u64 0, .int .u64 0] 105)) (w.heap.size) x2 z2) := ⟨by simp [go_sem], by simp [go_sem], by simp [go_sem], by simp [go_sem], by simp [go_sem], by simp [go_sem], by simp [go_sem], by simp [go_sem]⟩
 have F4 : Hid (Fr (((((w.alloc (.cells #[.int .u64 (e0 x2), .int .u64 (e1 x2), .int .u64 (e2 x2), .int .u64 (e3 x2), .int .u64 (e0 z2), .int .u64 (e1 z2), .int .u64 (e2 z2), .int .u64 (e3 z2)] 105)).alloc (.cells #[.int .u64 (e0 x3), .int .u64 (e1 x3), .int .u64 (e2 x3), .int .u64 (e3 x3), .int .u64 (e0 z3), .int .u64 (e1 z3), .int .u64 (e2 z3), .int .u64 (e3 z3)] 105)).alloc (.cells (ea s) 101)).alloc (.cells #[.int .u64 0, .int .u64 0, .int .u64 0, .int .u64 0, .int .u64 0, .int .u64 0, .int .u64 0, .int .u64 0] 105)).alloc (.cells #[.int .u64 0, .int .u64 0, .int .u64 0, .int .u64 0, .int .u64 0, .int .u64 0, .int .u64 0, .int .u64 0] 105)) (w.heap.size + 1) x3 z3) := ⟨by simp [go_sem], by simp [go_sem], by simp [go_sem], by simp [go_sem], by simp [go_sem], by simp [go_sem], by simp [go_sem], by simp [go_sem]⟩
 have V5 : Hid (Var (((((w.alloc (.cells #[.int .u64 (e0 x2), .int .u64 (e1 x2), .int .u64 (e2 x2), .int .u64 (e3 x2), .int .u64 (e0 z2), .int .u64 (e1 z2), .int .u64 (e2 z2), .int .u64 (e3 z2)] 105)).alloc (.cells #[.int .u64 (e0 x3), .int .u64 (e1 x3), .int .u64 (e2 x3), .int .u64 (e3 x3), .int .u64 (e0 z3), .int .u64 (e1 z3), .int .u64 (e2 z3), .int .u64 (e3 z3)] 105)).alloc (.cells (ea s) 101)).alloc (.cells #[.int .u64 0, .int .u64 0, .int .u64 0, .int .u64 0, .int .u64 0, .int .u64 0, .int .u64 0, .int .u64 0] 105)).alloc (.cells #[.int .u64 0, .int .u64 0, .int .u64 0, .int .u64 0, .int .u64 0, .int .u64 0, .int .u64 0, .int .u64 0] 105)) (w.heap.size + 1 + 1) s) := ⟨by simp [go_sem], by simp [go_sem], by simp [go_sem], by simp [go_sem]⟩
 have O6 : Hid (Fo (((((w.alloc (.cells #[.int .u64 (e0 x2), .int .u64 (e1 x2), .int .u64 (e2 x2), .int .u64 (e3 x2), .int .u64 (e0 z2), .int .u64 (e1 z2), .int .u64 (e2 z2), .int .u64 (e3 z2)] 105)).alloc (.cells #[.int .u64 (e0 x3), .int .u64 (e1 x3), .int .u64 (e2 x3), .int .u64 (e3 x3), .int .u64 (e0 z3), .int .u64 (e1 z3), .int .u64 (e2 z3), .int .u64 (e3 z3)] 105)).alloc (.cells (ea s) 101)).alloc (.cells #[.int .u64 0, .int .u64 0, .int .u64 0, .int .u64 0, .int .u64 0, .int .u64 0, .int .u64 0, .int .u64 0] 105)).alloc (.cells #[.int .u64 0, .int .u64 0, .int .u64 0, .int .u64 0, .int .u64 0, .int .u64 0, .int .u64 0, .int .u64 0] 105)) (w.heap.size + 1 + 1 + 1)) := ⟨⟨_, by simp [go_sem]; rfl⟩, ⟨_, by simp [go_sem]; rfl⟩, ⟨_, by simp [go_sem]; rfl⟩, ⟨_, by simp [go_sem]; rfl⟩, ⟨_, by simp [go_sem]; rfl⟩, ⟨_, by simp [go_sem]; rfl⟩, ⟨_, by simp [go_sem]; rfl⟩, ⟨_, by simp [go_sem]; rfl⟩, by simp [go_sem], by simp [go_sem], by simp [go_sem], by simp [go_sem], by simp [go_sem], by simp [go_sem], by simp [go_sem], by simp [go_sem]⟩
 have O7 : Hid (Fo (((((w.alloc (.cells #[.int .u64 (e0 x2), .int .u64 (e1 x2), .int .u64 (e2 x2), .int .u64 (e3 x2), .int .u64 (e0 z2), .int .u64 (e1 z2), .int .u64 (e2 z2), .int .u64 (e3 z2)] 105)).alloc (.cells #[.int .u64 (e0 x3), .int .u64 (e1 x3), .int .u64 (e2 x3), .int .u64 (e3 x3), .int .u64 (e0 z3), .int .u64 (e1 z3), .int .u64 (e2 z3), .int .u64 (e3 z3)] 105)).alloc (.cells (ea s) 101)).alloc (.cells #[.int .u64 0, .int .u64 0, .int .u64 0, .int .u64 0, .int .u64 0, .int .u64 0, .int .u64 0, .int .u64 0] 105)).alloc (.cells #[.int .u64 0, .int .u64 0, .int .u64 0, .int .u64 0, .int .u64 0, .int .u64 0, .int .u64 0, .int .u64 0] 105)) (w.heap.size + 1 + 1 + 1 + 1)) := ⟨⟨_, by simp [go_sem]; rfl⟩, ⟨_, by simp [go_sem]; rfl⟩, ⟨_, by simp [go_sem]; rfl⟩, ⟨_, by simp [go_sem]; rfl⟩, ⟨_, by simp [go_sem]; rfl⟩, ⟨_, by simp [go_sem]; rfl⟩, ⟨_, by simp [go_sem]; rfl⟩, ⟨_, by simp [go_sem]; rfl⟩, by simp [go_sem], by simp [go_sem], by simp [go_sem], by simp [go_sem], by simp [go_sem], by simp [go_sem], by simp [go_sem], by simp [go_sem]⟩
 generalize ((((w.alloc (.cells #[.int .u64 (e0 x2), .int .u64 (e1 x2), .int .u64 (e2 x2), .int .u64 (e3 x2), .int .u64 (e0 z2), .int .u64 (e1 z2), .int .u64 (e2 z2), .int .u64 (e3 z2)] 105)).alloc (.cells #[.int .u64 (e0 x3), .int .u64 (e1 x3), .int .u64 (e2 x3), .int .u64 (e3 x3), .int .u64 (e0 z3), .int .u64 (e1 z3), .int .u64 (e2 z3), .int .u64 (e3 z3)] 105)).alloc (.cells (ea s) 101)).alloc (.cells #[.int .u64 0, .int .u64 0, .int .u64 0, .int .u64 0, .int .u64 0, .int .u64 0, .int .u64 0, .int .u64 0] 105)).alloc (.cells #[.int .u64 0, .int .u64 0, .int .u64 0, .int .u64 0, .int .u64 0, .int .u64 0, .int .u64 0, .int .u64 0] 105) = W0 at *
 have hq1 : w.heap.size < w.heap.size + 1 := by omega
 have hq2 : w.heap.size + 1 < w.heap.size + 1 + 1 := by omega
 have hq3 : w.heap.size + 1 + 1 < w.heap.size + 1 + 1 + 1 := by omega
 have hq4 : w.heap.size + 1 + 1 + 1 < w.heap.size + 1 + 1 + 1 + 1 := by omega
 have hw4 : w.heap.size ≤ w.heap.size + 1 + 1 + 1 + 1 := by omega
 have hw3 : w.heap.size ≤ w.heap.size + 1 + 1 + 1 := by omega
 have hw2 : w.heap.size ≤ w.heap.size + 1 + 1 := by omega
 have hw1 : w.heap.size ≤ w.heap.size + 1 := by omega
 have hw0 : w.heap.size ≤ w.heap.size := Nat.le_refl _
 generalize w.heap.size + 1 + 1 + 1 + 1 = q4 at *
 generalize w.heap.size + 1 + 1 + 1 = q3 at *
 generalize w.heap.size + 1 + 1 = q2 at *
 generalize w.heap.size + 1 = q1 at *
 obtain ⟨q0, hq0⟩ : ∃ q, q = w.heap.size := ⟨_, rfl⟩
 clear hq0 q0
 try obtain ⟨F3c0, F3c1, F3c2, F3c3, F3c4, F3c5, F3c6, F3c7⟩ := F3.out
 try obtain ⟨F3c0, F3c1, F3c2, F3c3, F3c4, F3c5, F3c6, F3c7⟩ := F3.out
 go_wp2_with fail
 refine (add_e x2 z2 hx2 hz2 _).mono ?_
 rintro e u1_0 ⟨z16, rfl, hz16, Hz16, hb1_0⟩
 have hc1_1 : Hid (Below W0.heap.size W0 u1_0) := hb1_0
 clear hb1_0
 try clear V5c0 V5c1 V5c2 V5c3
 try clear F3c0 F3c1 F3c2 F3c3 F3c4 F3c5 F3c6 F3c7
 try clear F4c0 F4c1 F4c2 F4c3 F4c4 F4c5 F4c6 F4c7
 go_upto_region 2 with fail
 have hX : Hid (Below W0.heap.size W0 (u1_0.alloc (.cells (ea z16) 101))) := hc1_1.out.trans ((bel1 u1_0 _).mono hc1_1.out.size)
 have V8 : Hid (Var (u1_0.alloc (.cells (ea z16) 101)) (u1_0.heap.size) z16) := var_new u1_0 z16 _
 have hge8 : w.heap.size ≤ u1_0.heap.size := Nat.le_trans HB.out.size hc1_1.out.size
 have lt8_V5 : q2 < u1_0.heap.size := (V5.out.later hc1_1.out).lt
 have lt8_F3 : w.heap.size < u1_0.heap.size := (F3.out.later hc1_1.out).lt
 have lt8_F4 : q1 < u1_0.heap.size := (F4.out.later hc1_1.out).lt
 have lt8_O6 : q3 < u1_0.heap.size := (O6.out.later hc1_1.out).lt
 have lt8_O7 : q4 < u1_0.heap.size := (O7.out.later hc1_1.out).lt
 generalize u1_0.alloc (.cells (ea z16) 101) = W8 at *
 generalize u1_0.heap.size = b8 at *
 replace V5 := hidp (V5.out.later hX.out)
 replace F3 := hidp (F3.out.later hX.out)
 replace F4 := hidp (F4.out.later hX.out)
 replace O6 := hidp (O6.out.later hX.out)
 replace O7 := hidp (O7.out.later hX.out)
 replace HB := hidp (HB.out.trans (Below.mono hX.out HB.out.size))
 clear hX hc1_1
 try obtain ⟨F3c0, F3c1, F3c2, F3c3, F3c4, F3c5, F3c6, F3c7⟩ := F3.out
 try obtain ⟨F3c0, F3c1, F3c2, F3c3, F3c4, F3c5, F3c6, F3c7⟩ := F3.out
 go_wp2_with fail
 refine (sub_e x2 z2 hx2 hz2 _).mono ?_
 rintro e u2_0 ⟨z21, rfl, hz21, Hz21, hb2_0⟩
 have hc2_1 : Hid (Below W8.heap.size W8 u2_0) := hb2_0
 clear hb2_0
 try clear V5c0 V5c1 V5c2 V5c3
 try clear V8c0 V8c1 V8c2 V8c3
 try clear F3c0 F3c1 F3c2 F3c3 F3c4 F3c5 F3c6 F3c7
 try clear F4c0 F4c1 F4c2 F4c3 F4c4 F4c5 F4c6 F4c7
 go_upto_region 3 with fail
 have hX : Hid (Below W8.heap.size W8 (u2_0.alloc (.cells (ea z21) 101))) := hc2_1.out.trans ((bel1 u2_0 _).mono hc2_1.out.size)
 have V9 : Hid (Var (u2_0.alloc (.cells (ea z21) 101)) (u2_0.heap.size) z21) := var_new u2_0 z21 _
 have hge9 : w.heap.size ≤ u2_0.heap.size := Nat.le_trans HB.out.size hc2_1.out.size
 have lt9_V5 : q2 < u2_0.heap.size := (V5.out.later hc2_1.out).lt
 have lt9_V8 : b8 < u2_0.heap.size := (V8.out.later hc2_1.out).lt
 have lt9_F3 : w.heap.size < u2_0.heap.size := (F3.out.later hc2_1.out).lt
 have lt9_F4 : q1 < u2_0.heap.size := (F4.out.later hc2_1.out).lt
 have lt9_O6 : q3 < u2_0.heap.size := (O6.out.later hc2_1.out).lt
 have lt9_O7 : q4 < u2_0.heap.size := (O7.out.later hc2_1.out).lt
 generalize u2_0.alloc (.cells (ea z21) 101) = W9 at *
 generalize u2_0.heap.size = b9 at *
 replace V5 := hidp (V5.out.later hX.out)
 replace V8 := hidp (V8.out.later hX.out)
 replace F3 := hidp (F3.out.later hX.out)
 replace F4 := hidp (F4.out.later hX.out)
 replace O6 := hidp (O6.out.later hX.out)
 replace O7 := hidp (O7.out.later hX.out)
 replace HB := hidp (HB.out.trans (Below.mono hX.out HB.out.size))
 clear hX hc2_1
 have lw3_F3 : w.heap.size < W9.heap.size := F3.out.lt
 have lw3_F4 : q1 < W9.heap.size := F4.out.lt
 have lw3_O6 : q3 < W9.heap.size := O6.out.lt
 have lw3_O7 : q4 < W9.heap.size := O7.out.lt
 have lw3_V5 : q2 < W9.heap.size := V5.out.lt
 have lw3_V8 : b8 < W9.heap.size := V8.out.lt
 have lw3_V9 : b9 < W9.heap.size := V9.out.lt
 go_cut [10] from 12 (fun tv10 wc => ∃ (b10 : Nat) (v10 : Int), tv10 = .pointer (some ⟨b10, 0, none⟩) ∧ El v10 ∧ Hid (v10 = fm (fs x3 z3) z16) ∧ Hid (Var wc b10 v10) ∧ W9.heap.size ≤ b10 ∧ Hid (Below W9.heap.size W9 wc))
 case first =>
  obtain ⟨F4c0, F4c1, F4c2, F4c3, F4c4, F4c5, F4c6, F4c7⟩ := F4.out
  have F4u0 : ∀ u, Ext W9 u → u.cell? ⟨q1, 0, none⟩ = some (.int .u64 (e0 x3)) := fun u hu => hu.cell  F4c0
  have F4u1 : ∀ u, Ext W9 u → u.cell? ⟨q1, 1, none⟩ = some (.int .u64 (e1 x3)) := fun u hu => hu.cell  F4c1
  have F4u2 : ∀ u, Ext W9 u → u.cell? ⟨q1, 2, none⟩ = some (.int .u64 (e2 x3)) := fun u hu => hu.cell  F4c2
  have F4u3 : ∀ u, Ext W9 u → u.cell? ⟨q1, 3, none⟩ = some (.int .u64 (e3 x3)) := fun u hu => hu.cell  F4c3
  have F4u4 : ∀ u, Ext W9 u → u.cell? ⟨q1, 4, none⟩ = some (.int .u64 (e0 z3)) := fun u hu => hu.cell  F4c4
  have F4u5 : ∀ u, Ext W9 u → u.cell? ⟨q1, 5, none⟩ = some (.int .u64 (e1 z3)) := fun u hu => hu.cell  F4c5
  have F4u6 : ∀ u, Ext W9 u → u.cell? ⟨q1, 6, none⟩ = some (.int .u64 (e2 z3)) := fun u hu => hu.cell  F4c6
  have F4u7 : ∀ u, Ext W9 u → u.cell? ⟨q1, 7, none⟩ = some (.int .u64 (e3 z3)) := fun u hu => hu.cell  F4c7
  clear F4c0 F4c1 F4c2 F4c3 F4c4 F4c5 F4c6 F4c7
  obtain ⟨V8c0, V8c1, V8c2, V8c3⟩ := V8.out
  have V8u0 : ∀ u, Ext W9 u → u.cell? ⟨b8, 0, none⟩ = some (.int .u64 (e0 z16)) := fun u hu => hu.cell  V8c0
  have V8u1 : ∀ u, Ext W9 u → u.cell? ⟨b8, 1, none⟩ = some (.int .u64 (e1 z16)) := fun u hu => hu.cell  V8c1
  have V8u2 : ∀ u, Ext W9 u → u.cell? ⟨b8, 2, none⟩ = some (.int .u64 (e2 z16)) := fun u hu => hu.cell  V8c2
  have V8u3 : ∀ u, Ext W9 u → u.cell? ⟨b8, 3, none⟩ = some (.int .u64 (e3 z16)) := fun u hu => hu.cell  V8c3
  clear V8c0 V8c1 V8c2 V8c3
  refine wp_region_noPanic ?_
  refine wp_region_held_drew (S := Ext W9) (by kernel_rfl) (Ext.refl _).drew (fun hH => ?_)
  change wpAnyH _ _ _ _ _ _ #[false, false, false, false, false, false, false, false, false] _ _
  have hWs : w.heap.size ≤ W9.heap.size := HB.out.size
  generalize W9.drew = y0 at *
  refine tn 0 ?_
  refine tn 1 ?_
  refine tn 2 ?_
  refine tn 3 ?_
  refine tn 5 ?_
  refine rdy2 4 7 (fun K hK => ?c43w6) (fun K hK => ?c73w6)
  case c43w6 =>
   go_simp
   refine (sub_e x3 z3 hx3 hz3 _).mono ?_
   rintro e y3w7 ⟨z26, rfl, hz26, Hz26, hb3w7⟩
   refine ko hK (hH.trans hb3w7) fun hH => ?_; clear hK K
   clear hb3w7
   refine rdy2 6 7 (fun K hK => ?c63w8) (fun K hK => ?c73w8)
   case c63w8 =>
    go_simp
    refine (mul_e z26 z16 hz26 hz16 _).mono ?_
    rintro e y3w9 ⟨z28, rfl, hz28, Hz28, hb3w9⟩
    refine ko hK (hH.trans hb3w9) fun hH => ?_; clear hK K
    clear hb3w9
    refine rdy 7 (fun K hK => ?_)
    go_simp
    have hL10 : W9.heap.size ≤ y3w9.heap.size := hH.size
    refine ko hK (hH.trans (bel1 _ _)) fun hH => ?_; clear hK K
    have O10w : Hid (Own (y3w9.alloc (.cells zq4 101)) y3w9.heap.size) := own_new y3w9 _ _ _ _ _
    generalize y3w9.alloc (.cells zq4 101) = x3w10 at *
    generalize y3w9.heap.size = b10w at *
    have hg10 : W9.heap.size ≤ b10w := hL10
    obtain ⟨⟨_, nc0⟩, ⟨_, nc1⟩, ⟨_, nc2⟩, ⟨_, nc3⟩, nf0, nf1, nf2, nf3⟩ := O10w.out
    refine rdy 8 (fun K hK => ?_)
    go_simp
    refine ko hK (hH.set4 _ (by omega) _ _ _ _) fun hH => ?_; clear hK K
    have V10w : Hid (Var ((((x3w10.setCell ⟨b10w, 0, none⟩ (.int .u64 (e0 z28))).setCell ⟨b10w, 1, none⟩ (.int .u64 (e1 z28))).setCell ⟨b10w, 2, none⟩ (.int .u64 (e2 z28))).setCell ⟨b10w, 3, none⟩ (.int .u64 (e3 z28))) b10w z28) := var_set x3w10 b10w z28 O10w.out
    clear O10w nc0 nc1 nc2 nc3 nf0 nf1 nf2 nf3
    generalize (((x3w10.setCell ⟨b10w, 0, none⟩ (.int .u64 (e0 z28))).setCell ⟨b10w, 1, none⟩ (.int .u64 (e1 z28))).setCell ⟨b10w, 2, none⟩ (.int .u64 (e2 z28))).setCell ⟨b10w, 3, none⟩ (.int .u64 (e3 z28)) = x3w11 at *
    refine wpAnyH_done (by kernel_rfl) ?_ _
    refine NoPanic.normal ?_
    go_wp2_with fail
    go_meet
    case rel => exact ⟨_, _, rfl, hz28, (by unfold Hid; rw [Hz28.out, Hz26.out]; rfl), V10w, hg10, hH⟩
   case c73w8 =>
    go_simp
    have hL10 : W9.heap.size ≤ y3w7.heap.size := hH.size
    refine ko hK (hH.trans (bel1 _ _)) fun hH => ?_; clear hK K
    have O10w : Hid (Own (y3w7.alloc (.cells zq4 101)) y3w7.heap.size) := own_new y3w7 _ _ _ _ _
    generalize y3w7.alloc (.cells zq4 101) = x3w12 at *
    generalize y3w7.heap.size = b10w at *
    have hg10 : W9.heap.size ≤ b10w := hL10
    refine rdy 6 (fun K hK => ?_)
    go_simp
    refine (mul_e z26 z16 hz26 hz16 _).mono ?_
    rintro e y3w13 ⟨z28, rfl, hz28, Hz28, hb3w13⟩
    refine ko hK (hH.trans hb3w13) fun hH => ?_; clear hK K
    replace O10w := hidp (O10w.out.later hb3w13)
    clear hb3w13
    obtain ⟨⟨_, nc0⟩, ⟨_, nc1⟩, ⟨_, nc2⟩, ⟨_, nc3⟩, nf0, nf1, nf2, nf3⟩ := O10w.out
    refine rdy 8 (fun K hK => ?_)
    go_simp
    refine ko hK (hH.set4 _ (by omega) _ _ _ _) fun hH => ?_; clear hK K
    have V10w : Hid (Var ((((y3w13.setCell ⟨b10w, 0, none⟩ (.int .u64 (e0 z28))).setCell ⟨b10w, 1, none⟩ (.int .u64 (e1 z28))).setCell ⟨b10w, 2, none⟩ (.int .u64 (e2 z28))).setCell ⟨b10w, 3, none⟩ (.int .u64 (e3 z28))) b10w z28) := var_set y3w13 b10w z28 O10w.out
    clear O10w nc0 nc1 nc2 nc3 nf0 nf1 nf2 nf3
    generalize (((y3w13.setCell ⟨b10w, 0, none⟩ (.int .u64 (e0 z28))).setCell ⟨b10w, 1, none⟩ (.int .u64 (e1 z28))).setCell ⟨b10w, 2, none⟩ (.int .u64 (e2 z28))).setCell ⟨b10w, 3, none⟩ (.int .u64 (e3 z28)) = x3w14 at *
    refine wpAnyH_done (by kernel_rfl) ?_ _
    refine NoPanic.normal ?_
    go_wp2_with fail
    go_meet
    case rel => exact ⟨_, _, rfl, hz28, (by unfold Hid; rw [Hz28.out, Hz26.out]; rfl), V10w, hg10, hH⟩
  case c73w6 =>
   go_simp
   have hL10 : W9.heap.size ≤ y0.heap.size := hH.size
   refine ko hK (hH.trans (bel1 _ _)) fun hH => ?_; clear hK K
   have O10w : Hid (Own (y0.alloc (.cells zq4 101)) y0.heap.size) := own_new y0 _ _ _ _ _
   generalize y0.alloc (.cells zq4 101) = x3w15 at *
   generalize y0.heap.size = b10w at *
   have hg10 : W9.heap.size ≤ b10w := hL10
   refine rdy 4 (fun K hK => ?_)
   go_simp
   refine (sub_e x3 z3 hx3 hz3 _).mono ?_
   rintro e y3w16 ⟨z26, rfl, hz26, Hz26, hb3w16⟩
   refine ko hK (hH.trans hb3w16) fun hH => ?_; clear hK K
   replace O10w := hidp (O10w.out.later hb3w16)
   clear hb3w16
   refine rdy 6 (fun K hK => ?_)
   go_simp
   refine (mul_e z26 z16 hz26 hz16 _).mono ?_
   rintro e y3w17 ⟨z28, rfl, hz28, Hz28, hb3w17⟩
   refine ko hK (hH.trans hb3w17) fun hH => ?_; clear hK K
   replace O10w := hidp (O10w.out.later hb3w17)
   clear hb3w17
   obtain ⟨⟨_, nc0⟩, ⟨_, nc1⟩, ⟨_, nc2⟩, ⟨_, nc3⟩, nf0, nf1, nf2, nf3⟩ := O10w.out
   refine rdy 8 (fun K hK => ?_)
   go_simp
   refine ko hK (hH.set4 _ (by omega) _ _ _ _) fun hH => ?_; clear hK K
   have V10w : Hid (Var ((((y3w17.setCell ⟨b10w, 0, none⟩ (.int .u64 (e0 z28))).setCell ⟨b10w, 1, none⟩ (.int .u64 (e1 z28))).setCell ⟨b10w, 2, none⟩ (.int .u64 (e2 z28))).setCell ⟨b10w, 3, none⟩ (.int .u64 (e3 z28))) b10w z28) := var_set y3w17 b10w z28 O10w.out
   clear O10w nc0 nc1 nc2 nc3 nf0 nf1 nf2 nf3
   generalize (((y3w17.setCell ⟨b10w, 0, none⟩ (.int .u64 (e0 z28))).setCell ⟨b10w, 1, none⟩ (.int .u64 (e1 z28))).setCell ⟨b10w, 2, none⟩ (.int .u64 (e2 z28))).setCell ⟨b10w, 3, none⟩ (.int .u64 (e3 z28)) = x3w18 at *
   refine wpAnyH_done (by kernel_rfl) ?_ _
   refine NoPanic.normal ?_
   go_wp2_with fail
   go_meet
   case rel => exact ⟨_, _, rfl, hz28, (by unfold Hid; rw [Hz28.out, Hz26.out]; rfl), V10w, hg10, hH⟩
 obtain ⟨b10, v10, rfl, hv10, Hv10, V10, hge10, hX⟩ := hcut
 generalize wc = W10 at *
 replace V5 := hidp (V5.out.later hX.out)
 replace V8 := hidp (V8.out.later hX.out)
 replace V9 := hidp (V9.out.later hX.out)
 replace F3 := hidp (F3.out.later hX.out)
 replace F4 := hidp (F4.out.later hX.out)
 replace O6 := hidp (O6.out.later hX.out)
 replace O7 := hidp (O7.out.later hX.out)
 replace HB := hidp (HB.out.trans (Below.mono hX.out HB.out.size))
 clear hX
 go_upto_region 4 with fail
 have lw4_F3 : w.heap.size < W10.heap.size := F3.out.lt
 have lw4_F4 : q1 < W10.heap.size := F4.out.lt
 have lw4_O6 : q3 < W10.heap.size := O6.out.lt
 have lw4_O7 : q4 < W10.heap.size := O7.out.lt
 have lw4_V5 : q2 < W10.heap.size := V5.out.lt
 have lw4_V8 : b8 < W10.heap.size := V8.out.lt
 have lw4_V9 : b9 < W10.heap.size := V9.out.lt
 have lw4_V10 : b10 < W10.heap.size := V10.out.lt
 go_cut [11] from 12 (fun tv11 wc => ∃ (b11 : Nat) (v11 : Int), tv11 = .pointer (some ⟨b11, 0, none⟩) ∧ El v11 ∧ Hid (v11 = fm (fa x3 z3) z21) ∧ Hid (Var wc b11 v11) ∧ W10.heap.size ≤ b11 ∧ Hid (Below W10.heap.size W10 wc))
 case first =>
  obtain ⟨F4c0, F4c1, F4c2, F4c3, F4c4, F4c5, F4c6, F4c7⟩ := F4.out
  have F4u0 : ∀ u, Ext W10 u → u.cell? ⟨q1, 0, none⟩ = some (.int .u64 (e0 x3)) := fun u hu => hu.cell  F4c0
  have F4u1 : ∀ u, Ext W10 u → u.cell? ⟨q1, 1, none⟩ = some (.int .u64 (e1 x3)) := fun u hu => hu.cell  F4c1
  have F4u2 : ∀ u, Ext W10 u → u.cell? ⟨q1, 2, none⟩ = some (.int .u64 (e2 x3)) := fun u hu => hu.cell  F4c2
  have F4u3 : ∀ u, Ext W10 u → u.cell? ⟨q1, 3, none⟩ = some (.int .u64 (e3 x3)) := fun u hu => hu.cell  F4c3
  have F4u4 : ∀ u, Ext W10 u → u.cell? ⟨q1, 4, none⟩ = some (.int .u64 (e0 z3)) := fun u hu => hu.cell  F4c4
  have F4u5 : ∀ u, Ext W10 u → u.cell? ⟨q1, 5, none⟩ = some (.int .u64 (e1 z3)) := fun u hu => hu.cell  F4c5
  have F4u6 : ∀ u, Ext W10 u → u.cell? ⟨q1, 6, none⟩ = some (.int .u64 (e2 z3)) := fun u hu => hu.cell  F4c6
  have F4u7 : ∀ u, Ext W10 u → u.cell? ⟨q1, 7, none⟩ = some (.int .u64 (e3 z3)) := fun u hu => hu.cell  F4c7
  clear F4c0 F4c1 F4c2 F4c3 F4c4 F4c5 F4c6 F4c7
  obtain ⟨V9c0, V9c1, V9c2, V9c3⟩ := V9.out
  have V9u0 : ∀ u, Ext W10 u → u.cell? ⟨b9, 0, none⟩ = some (.int .u64 (e0 z21)) := fun u hu => hu.cell  V9c0
  have V9u1 : ∀ u, Ext W10 u → u.cell? ⟨b9, 1, none⟩ = some (.int .u64 (e1 z21)) := fun u hu => hu.cell  V9c1
  have V9u2 : ∀ u, Ext W10 u → u.cell? ⟨b9, 2, none⟩ = some (.int .u64 (e2 z21)) := fun u hu => hu.cell  V9c2
  have V9u3 : ∀ u, Ext W10 u → u.cell? ⟨b9, 3, none⟩ = some (.int .u64 (e3 z21)) := fun u hu => hu.cell  V9c3
  clear V9c0 V9c1 V9c2 V9c3
  refine wp_region_noPanic ?_
  refine wp_region_held_drew (S := Ext W10) (by kernel_rfl) (Ext.refl _).drew (fun hH => ?_)
  change wpAnyH _ _ _ _ _ _ #[false, false, false, false, false, false, false, false, false] _ _
  have hWs : w.heap.size ≤ W10.heap.size := HB.out.size
  generalize W10.drew = y0 at *
  refine tn 0 ?_
  refine tn 1 ?_
  refine tn 2 ?_
  refine tn 3 ?_
  refine tn 5 ?_
  refine rdy2 4 7 (fun K hK => ?c44w6) (fun K hK => ?c74w6)
  case c44w6 =>
   go_simp
   refine (add_e x3 z3 hx3 hz3 _).mono ?_
   rintro e y4w7 ⟨z33, rfl, hz33, Hz33, hb4w7⟩
   refine ko hK (hH.trans hb4w7) fun hH => ?_; clear hK K
   clear hb4w7
   refine rdy2 6 7 (fun K hK => ?c64w8) (fun K hK => ?c74w8)
   case c64w8 =>
    go_simp
    refine (mul_e z33 z21 hz33 hz21 _).mono ?_
    rintro e y4w9 ⟨z35, rfl, hz35, Hz35, hb4w9⟩
    refine ko hK (hH.trans hb4w9) fun hH => ?_; clear hK K
    clear hb4w9
    refine rdy 7 (fun K hK => ?_)
    go_simp
    have hL11 : W10.heap.size ≤ y4w9.heap.size := hH.size
    refine ko hK (hH.trans (bel1 _ _)) fun hH => ?_; clear hK K
    have O11w : Hid (Own (y4w9.alloc (.cells zq4 101)) y4w9.heap.size) := own_new y4w9 _ _ _ _ _
    generalize y4w9.alloc (.cells zq4 101) = x4w10 at *
    generalize y4w9.heap.size = b11w at *
    have hg11 : W10.heap.size ≤ b11w := hL11
    obtain ⟨⟨_, nc0⟩, ⟨_, nc1⟩, ⟨_, nc2⟩, ⟨_, nc3⟩, nf0, nf1, nf2, nf3⟩ := O11w.out
    refine rdy 8 (fun K hK => ?_)
    go_simp
    refine ko hK (hH.set4 _ (by omega) _ _ _ _) fun hH => ?_; clear hK K
    have V11w : Hid (Var ((((x4w10.setCell ⟨b11w, 0, none⟩ (.int .u64 (e0 z35))).setCell ⟨b11w, 1, none⟩ (.int .u64 (e1 z35))).setCell ⟨b11w, 2, none⟩ (.int .u64 (e2 z35))).setCell ⟨b11w, 3, none⟩ (.int .u64 (e3 z35))) b11w z35) := var_set x4w10 b11w z35 O11w.out
    clear O11w nc0 nc1 nc2 nc3 nf0 nf1 nf2 nf3
    generalize (((x4w10.setCell ⟨b11w, 0, none⟩ (.int .u64 (e0 z35))).setCell ⟨b11w, 1, none⟩ (.int .u64 (e1 z35))).setCell ⟨b11w, 2, none⟩ (.int .u64 (e2 z35))).setCell ⟨b11w, 3, none⟩ (.int .u64 (e3 z35)) = x4w11 at *
    refine wpAnyH_done (by kernel_rfl) ?_ _
    refine NoPanic.normal ?_
    go_wp2_with fail
    go_meet
    case rel => exact ⟨_, _, rfl, hz35, (by unfold Hid; rw [Hz35.out, Hz33.out]; rfl), V11w, hg11, hH⟩
   case c74w8 =>
    go_simp
    have hL11 : W10.heap.size ≤ y4w7.heap.size := hH.size
    refine ko hK (hH.trans (bel1 _ _)) fun hH => ?_; clear hK K
    have O11w : Hid (Own (y4w7.alloc (.cells zq4 101)) y4w7.heap.size) := own_new y4w7 _ _ _ _ _
    generalize y4w7.alloc (.cells zq4 101) = x4w12 at *
    generalize y4w7.heap.size = b11w at *
    have hg11 : W10.heap.size ≤ b11w := hL11
    refine rdy 6 (fun K hK => ?_)
    go_simp
    refine (mul_e z33 z21 hz33 hz21 _).mono ?_
    rintro e y4w13 ⟨z35, rfl, hz35, Hz35, hb4w13⟩
    refine ko hK (hH.trans hb4w13) fun hH => ?_; clear hK K
    replace O11w := hidp (O11w.out.later hb4w13)
    clear hb4w13
    obtain ⟨⟨_, nc0⟩, ⟨_, nc1⟩, ⟨_, nc2⟩, ⟨_, nc3⟩, nf0, nf1, nf2, nf3⟩ := O11w.out
    refine rdy 8 (fun K hK => ?_)
    go_simp
    refine ko hK (hH.set4 _ (by omega) _ _ _ _) fun hH => ?_; clear hK K
    have V11w : Hid (Var ((((y4w13.setCell ⟨b11w, 0, none⟩ (.int .u64 (e0 z35))).setCell ⟨b11w, 1, none⟩ (.int .u64 (e1 z35))).setCell ⟨b11w, 2, none⟩ (.int .u64 (e2 z35))).setCell ⟨b11w, 3, none⟩ (.int .u64 (e3 z35))) b11w z35) := var_set y4w13 b11w z35 O11w.out
    clear O11w nc0 nc1 nc2 nc3 nf0 nf1 nf2 nf3
    generalize (((y4w13.setCell ⟨b11w, 0, none⟩ (.int .u64 (e0 z35))).setCell ⟨b11w, 1, none⟩ (.int .u64 (e1 z35))).setCell ⟨b11w, 2, none⟩ (.int .u64 (e2 z35))).setCell ⟨b11w, 3, none⟩ (.int .u64 (e3 z35)) = x4w14 at *
    refine wpAnyH_done (by kernel_rfl) ?_ _
    refine NoPanic.normal ?_
    go_wp2_with fail
    go_meet
    case rel => exact ⟨_, _, rfl, hz35, (by unfold Hid; rw [Hz35.out, Hz33.out]; rfl), V11w, hg11, hH⟩
  case c74w6 =>
   go_simp
   have hL11 : W10.heap.size ≤ y0.heap.size := hH.size
   refine ko hK (hH.trans (bel1 _ _)) fun hH => ?_; clear hK K
   have O11w : Hid (Own (y0.alloc (.cells zq4 101)) y0.heap.size) := own_new y0 _ _ _ _ _
   generalize y0.alloc (.cells zq4 101) = x4w15 at *
   generalize y0.heap.size = b11w at *
   have hg11 : W10.heap.size ≤ b11w := hL11
   refine rdy 4 (fun K hK => ?_)
   go_simp
   refine (add_e x3 z3 hx3 hz3 _).mono ?_
   rintro e y4w16 ⟨z33, rfl, hz33, Hz33, hb4w16⟩
   refine ko hK (hH.trans hb4w16) fun hH => ?_; clear hK K
   replace O11w := hidp (O11w.out.later hb4w16)
   clear hb4w16
   refine rdy 6 (fun K hK => ?_)
   go_simp
   refine (mul_e z33 z21 hz33 hz21 _).mono ?_
   rintro e y4w17 ⟨z35, rfl, hz35, Hz35, hb4w17⟩
   refine ko hK (hH.trans hb4w17) fun hH => ?_; clear hK K
   replace O11w := hidp (O11w.out.later hb4w17)
   clear hb4w17
   obtain ⟨⟨_, nc0⟩, ⟨_, nc1⟩, ⟨_, nc2⟩, ⟨_, nc3⟩, nf0, nf1, nf2, nf3⟩ := O11w.out
   refine rdy 8 (fun K hK => ?_)
   go_simp
   refine ko hK (hH.set4 _ (by omega) _ _ _ _) fun hH => ?_; clear hK K
   have V11w : Hid (Var ((((y4w17.setCell ⟨b11w, 0, none⟩ (.int .u64 (e0 z35))).setCell ⟨b11w, 1, none⟩ (.int .u64 (e1 z35))).setCell ⟨b11w, 2, none⟩ (.int .u64 (e2 z35))).setCell ⟨b11w, 3, none⟩ (.int .u64 (e3 z35))) b11w z35) := var_set y4w17 b11w z35 O11w.out
   clear O11w nc0 nc1 nc2 nc3 nf0 nf1 nf2 nf3
   generalize (((y4w17.setCell ⟨b11w, 0, none⟩ (.int .u64 (e0 z35))).setCell ⟨b11w, 1, none⟩ (.int .u64 (e1 z35))).setCell ⟨b11w, 2, none⟩ (.int .u64 (e2 z35))).setCell ⟨b11w, 3, none⟩ (.int .u64 (e3 z35)) = x4w18 at *
   refine wpAnyH_done (by kernel_rfl) ?_ _
   refine NoPanic.normal ?_
   go_wp2_with fail
   go_meet
   case rel => exact ⟨_, _, rfl, hz35, (by unfold Hid; rw [Hz35.out, Hz33.out]; rfl), V11w, hg11, hH⟩
 obtain ⟨b11, v11, rfl, hv11, Hv11, V11, hge11, hX⟩ := hcut
 generalize wc = W11 at *
 replace V5 := hidp (V5.out.later hX.out)
 replace V8 := hidp (V8.out.later hX.out)
 replace V9 := hidp (V9.out.later hX.out)
 replace V10 := hidp (V10.out.later hX.out)
 replace F3 := hidp (F3.out.later hX.out)
 replace F4 := hidp (F4.out.later hX.out)
 replace O6 := hidp (O6.out.later hX.out)
 replace O7 := hidp (O7.out.later hX.out)
 replace HB := hidp (HB.out.trans (Below.mono hX.out HB.out.size))
 clear hX
 go_upto_region 5 with fail
 obtain ⟨V5c0, V5c1, V5c2, V5c3⟩ := V5.out
 have V5u0 : ∀ u, ExtL [q3, q4] W11 u → u.cell? ⟨q2, 0, none⟩ = some (.int .u64 (e0 s)) := fun u hu => hu.cell (by simp only [List.mem_cons, List.not_mem_nil, or_false]; omega) V5c0
 have V5u1 : ∀ u, ExtL [q3, q4] W11 u → u.cell? ⟨q2, 1, none⟩ = some (.int .u64 (e1 s)) := fun u hu => hu.cell (by simp only [List.mem_cons, List.not_mem_nil, or_false]; omega) V5c1
 have V5u2 : ∀ u, ExtL [q3, q4] W11 u → u.cell? ⟨q2, 2, none⟩ = some (.int .u64 (e2 s)) := fun u hu => hu.cell (by simp only [List.mem_cons, List.not_mem_nil, or_false]; omega) V5c2
 have V5u3 : ∀ u, ExtL [q3, q4] W11 u → u.cell? ⟨q2, 3, none⟩ = some (.int .u64 (e3 s)) := fun u hu => hu.cell (by simp only [List.mem_cons, List.not_mem_nil, or_false]; omega) V5c3
 clear V5c0 V5c1 V5c2 V5c3
 obtain ⟨V8c0, V8c1, V8c2, V8c3⟩ := V8.out
 have V8u0 : ∀ u, ExtL [q3, q4] W11 u → u.cell? ⟨b8, 0, none⟩ = some (.int .u64 (e0 z16)) := fun u hu => hu.cell (by simp only [List.mem_cons, List.not_mem_nil, or_false]; omega) V8c0
 have V8u1 : ∀ u, ExtL [q3, q4] W11 u → u.cell? ⟨b8, 1, none⟩ = some (.int .u64 (e1 z16)) := fun u hu => hu.cell (by simp only [List.mem_cons, List.not_mem_nil, or_false]; omega) V8c1
 have V8u2 : ∀ u, ExtL [q3, q4] W11 u → u.cell? ⟨b8, 2, none⟩ = some (.int .u64 (e2 z16)) := fun u hu => hu.cell (by simp only [List.mem_cons, List.not_mem_nil, or_false]; omega) V8c2
 have V8u3 : ∀ u, ExtL [q3, q4] W11 u → u.cell? ⟨b8, 3, none⟩ = some (.int .u64 (e3 z16)) := fun u hu => hu.cell (by simp only [List.mem_cons, List.not_mem_nil, or_false]; omega) V8c3
 clear V8c0 V8c1 V8c2 V8c3
 obtain ⟨V9c0, V9c1, V9c2, V9c3⟩ := V9.out
 have V9u0 : ∀ u, ExtL [q3, q4] W11 u → u.cell? ⟨b9, 0, none⟩ = some (.int .u64 (e0 z21)) := fun u hu => hu.cell (by simp only [List.mem_cons, List.not_mem_nil, or_false]; omega) V9c0
 have V9u1 : ∀ u, ExtL [q3, q4] W11 u → u.cell? ⟨b9, 1, none⟩ = some (.int .u64 (e1 z21)) := fun u hu => hu.cell (by simp only [List.mem_cons, List.not_mem_nil, or_false]; omega) V9c1
 have V9u2 : ∀ u, ExtL [q3, q4] W11 u → u.cell? ⟨b9, 2, none⟩ = some (.int .u64 (e2 z21)) := fun u hu => hu.cell (by simp only [List.mem_cons, List.not_mem_nil, or_false]; omega) V9c2
 have V9u3 : ∀ u, ExtL [q3, q4] W11 u → u.cell? ⟨b9, 3, none⟩ = some (.int .u64 (e3 z21)) := fun u hu => hu.cell (by simp only [List.mem_cons, List.not_mem_nil, or_false]; omega) V9c3
 clear V9c0 V9c1 V9c2 V9c3
 obtain ⟨V10c0, V10c1, V10c2, V10c3⟩ := V10.out
 have V10u0 : ∀ u, ExtL [q3, q4] W11 u → u.cell? ⟨b10, 0, none⟩ = some (.int .u64 (e0 v10)) := fun u hu => hu.cell (by simp only [List.mem_cons, List.not_mem_nil, or_false]; omega) V10c0
 have V10u1 : ∀ u, ExtL [q3, q4] W11 u → u.cell? ⟨b10, 1, none⟩ = some (.int .u64 (e1 v10)) := fun u hu => hu.cell (by simp only [List.mem_cons, List.not_mem_nil, or_false]; omega) V10c1
 have V10u2 : ∀ u, ExtL [q3, q4] W11 u → u.cell? ⟨b10, 2, none⟩ = some (.int .u64 (e2 v10)) := fun u hu => hu.cell (by simp only [List.mem_cons, List.not_mem_nil, or_false]; omega) V10c2
 have V10u3 : ∀ u, ExtL [q3, q4] W11 u → u.cell? ⟨b10, 3, none⟩ = some (.int .u64 (e3 v10)) := fun u hu => hu.cell (by simp only [List.mem_cons, List.not_mem_nil, or_false]; omega) V10c3
 clear V10c0 V10c1 V10c2 V10c3
 obtain ⟨V11c0, V11c1, V11c2, V11c3⟩ := V11.out
 have V11u0 : ∀ u, ExtL [q3, q4] W11 u → u.cell? ⟨b11, 0, none⟩ = some (.int .u64 (e0 v11)) := fun u hu => hu.cell (by simp only [List.mem_cons, List.not_mem_nil, or_false]; omega) V11c0
 have V11u1 : ∀ u, ExtL [q3, q4] W11 u → u.cell? ⟨b11, 1, none⟩ = some (.int .u64 (e1 v11)) := fun u hu => hu.cell (by simp only [List.mem_cons, List.not_mem_nil, or_false]; omega) V11c1
 have V11u2 : ∀ u, ExtL [q3, q4] W11 u → u.cell? ⟨b11, 2, none⟩ = some (.int .u64 (e2 v11)) := fun u hu => hu.cell (by simp only [List.mem_cons, List.not_mem_nil, or_false]; omega) V11c2
 have V11u3 : ∀ u, ExtL [q3, q4] W11 u → u.cell? ⟨b11, 3, none⟩ = some (.int .u64 (e3 v11)) := fun u hu => hu.cell (by simp only [List.mem_cons, List.not_mem_nil, or_false]; omega) V11c3
 clear V11c0 V11c1 V11c2 V11c3
 refine wp_region_noPanic ?_
 refine wp_region_held_drew (S := ExtL [q3, q4] W11) (by kernel_rfl) (ExtL.refl _ _).drew (fun hH => ?_)
 change wpAnyH _ _ _ _ _ _ #[false, false, false, false, false, false, false, false, false, false, false, false, false, false, false, false, false, false] _ _
 replace O6 : Hid (Fo W11.drew q3) := O6.out.later (Below.refl _ _).drew
 replace O7 : Hid (Fo W11.drew q4) := O7.out.later (Below.refl _ _).drew
 generalize W11.drew = y0 at *
 refine tn 0 ?_
 refine tn 2 ?_
 refine tn 5 ?_
 refine tn 6 ?_
 refine tn 9 ?_
 refine tn 10 ?_
 refine tn 11 ?_
 refine rdy 1 (fun K hK => ?_)
 go_simp
 refine (square_e z16 hz16 _).mono ?_
 rintro e c5_1 ⟨z37, rfl, hz37, Hz37, hb5_1⟩
 refine ko hK (hH.trans hb5_1) fun hH => ?_; clear hK K
 replace O6 := hidp (O6.out.later hb5_1)
 replace O7 := hidp (O7.out.later hb5_1)
 clear hb5_1
 refine rdy 3 (fun K hK => ?_)
 go_simp
 refine (square_e z21 hz21 _).mono ?_
 rintro e c5_3 ⟨z39, rfl, hz39, Hz39, hb5_3⟩
 refine ko hK (hH.trans hb5_3) fun hH => ?_; clear hK K
 replace O6 := hidp (O6.out.later hb5_3)
 replace O7 := hidp (O7.out.later hb5_3)
 clear hb5_3
 refine rdy 4 (fun K hK => ?_)
 go_simp
 refine (doubled_e z37 z39 hz37 hz39 _).mono ?_
 rintro e c5_4 ⟨z40x, z40z, rfl, hz40x, hz40z, Hz40x, Hz40z, hb5_4⟩
 refine ko hK (hH.trans hb5_4) fun hH => ?_; clear hK K
 replace O6 := hidp (O6.out.later hb5_4)
 replace O7 := hidp (O7.out.later hb5_4)
 clear hb5_4
 refine rdy 7 (fun K hK => ?_)
 go_simp
 refine (add_e v10 v11 hv10 hv11 _).mono ?_
 rintro e c5_7 ⟨z43, rfl, hz43, Hz43, hb5_7⟩
 refine ko hK (hH.trans hb5_7) fun hH => ?_; clear hK K
 replace O6 := hidp (O6.out.later hb5_7)
 replace O7 := hidp (O7.out.later hb5_7)
 clear hb5_7
 refine rdy 8 (fun K hK => ?_)
 go_simp
 refine (square_e z43 hz43 _).mono ?_
 rintro e c5_8 ⟨z44, rfl, hz44, Hz44, hb5_8⟩
 refine ko hK (hH.trans hb5_8) fun hH => ?_; clear hK K
 replace O6 := hidp (O6.out.later hb5_8)
 replace O7 := hidp (O7.out.later hb5_8)
 clear hb5_8
 refine rdy 12 (fun K hK => ?_)
 go_simp
 refine (sub_e v10 v11 hv10 hv11 _).mono ?_
 rintro e c5_12 ⟨z48, rfl, hz48, Hz48, hb5_12⟩
 refine ko hK (hH.trans hb5_12) fun hH => ?_; clear hK K
 replace O6 := hidp (O6.out.later hb5_12)
 replace O7 := hidp (O7.out.later hb5_12)
 clear hb5_12
 refine rdy 13 (fun K hK => ?_)
 go_simp
 refine (square_e z48 hz48 _).mono ?_
 rintro e c5_13 ⟨z49, rfl, hz49, Hz49, hb5_13⟩
 refine ko hK (hH.trans hb5_13) fun hH => ?_; clear hK K
 replace O6 := hidp (O6.out.later hb5_13)
 replace O7 := hidp (O7.out.later hb5_13)
 clear hb5_13
 refine rdy 14 (fun K hK => ?_)
 go_simp
 refine (mul_e s z49 hs hz49 _).mono ?_
 rintro e c5_14 ⟨z50, rfl, hz50, Hz50, hb5_14⟩
 refine ko hK (hH.trans hb5_14) fun hH => ?_; clear hK K
 replace O6 := hidp (O6.out.later hb5_14)
 replace O7 := hidp (O7.out.later hb5_14)
 clear hb5_14
 refine tn 15 ?_
 obtain ⟨⟨_, nc0⟩, ⟨_, nc1⟩, ⟨_, nc2⟩, ⟨_, nc3⟩, ⟨_, nc4⟩, ⟨_, nc5⟩, ⟨_, nc6⟩, ⟨_, nc7⟩, nf0, nf1, nf2, nf3, nf4, nf5, nf6, nf7⟩ := O6.out
 refine rdy 16 (fun K hK => ?_)
 go_simp
 refine ko hK (hH.set8 (by simp) _ _ _ _ _ _ _ _) fun hH => ?_; clear hK K
 have R6 : Hid (Fr ((((((((c5_14.setCell ⟨q3, 0, none⟩ (.int .u64 (e0 z40x))).setCell ⟨q3, 1, none⟩ (.int .u64 (e1 z40x))).setCell ⟨q3, 2, none⟩ (.int .u64 (e2 z40x))).setCell ⟨q3, 3, none⟩ (.int .u64 (e3 z40x))).setCell ⟨q3, 4, none⟩ (.int .u64 (e0 z40z))).setCell ⟨q3, 5, none⟩ (.int .u64 (e1 z40z))).setCell ⟨q3, 6, none⟩ (.int .u64 (e2 z40z))).setCell ⟨q3, 7, none⟩ (.int .u64 (e3 z40z))) q3 z40x z40z) := fr_set c5_14 q3 z40x z40z O6.out
 clear O6
 replace O7 : Hid (Fo ((((((((c5_14.setCell ⟨q3, 0, none⟩ (.int .u64 (e0 z40x))).setCell ⟨q3, 1, none⟩ (.int .u64 (e1 z40x))).setCell ⟨q3, 2, none⟩ (.int .u64 (e2 z40x))).setCell ⟨q3, 3, none⟩ (.int .u64 (e3 z40x))).setCell ⟨q3, 4, none⟩ (.int .u64 (e0 z40z))).setCell ⟨q3, 5, none⟩ (.int .u64 (e1 z40z))).setCell ⟨q3, 6, none⟩ (.int .u64 (e2 z40z))).setCell ⟨q3, 7, none⟩ (.int .u64 (e3 z40z))) q4) := fo_o8 O7.out (by omega) _ _ _ _ _ _ _ _
 clear nc0 nf0 nc1 nf1 nc2 nf2 nc3 nf3 nc4 nf4 nc5 nf5 nc6 nf6 nc7 nf7
 generalize (((((((c5_14.setCell ⟨q3, 0, none⟩ (.int .u64 (e0 z40x))).setCell ⟨q3, 1, none⟩ (.int .u64 (e1 z40x))).setCell ⟨q3, 2, none⟩ (.int .u64 (e2 z40x))).setCell ⟨q3, 3, none⟩ (.int .u64 (e3 z40x))).setCell ⟨q3, 4, none⟩ (.int .u64 (e0 z40z))).setCell ⟨q3, 5, none⟩ (.int .u64 (e1 z40z))).setCell ⟨q3, 6, none⟩ (.int .u64 (e2 z40z))).setCell ⟨q3, 7, none⟩ (.int .u64 (e3 z40z)) = x5_16 at *
 obtain ⟨⟨_, nc0⟩, ⟨_, nc1⟩, ⟨_, nc2⟩, ⟨_, nc3⟩, ⟨_, nc4⟩, ⟨_, nc5⟩, ⟨_, nc6⟩, ⟨_, nc7⟩, nf0, nf1, nf2, nf3, nf4, nf5, nf6, nf7⟩ := O7.out
 refine rdy 17 (fun K hK => ?_)
 go_simp
 refine ko hK (hH.set8 (by simp) _ _ _ _ _ _ _ _) fun hH => ?_; clear hK K
 have R7 : Hid (Fr ((((((((x5_16.setCell ⟨q4, 0, none⟩ (.int .u64 (e0 z44))).setCell ⟨q4, 1, none⟩ (.int .u64 (e1 z44))).setCell ⟨q4, 2, none⟩ (.int .u64 (e2 z44))).setCell ⟨q4, 3, none⟩ (.int .u64 (e3 z44))).setCell ⟨q4, 4, none⟩ (.int .u64 (e0 z50))).setCell ⟨q4, 5, none⟩ (.int .u64 (e1 z50))).setCell ⟨q4, 6, none⟩ (.int .u64 (e2 z50))).setCell ⟨q4, 7, none⟩ (.int .u64 (e3 z50))) q4 z44 z50) := fr_set x5_16 q4 z44 z50 O7.out
 clear O7
 replace R6 : Hid (Fr ((((((((x5_16.setCell ⟨q4, 0, none⟩ (.int .u64 (e0 z44))).setCell ⟨q4, 1, none⟩ (.int .u64 (e1 z44))).setCell ⟨q4, 2, none⟩ (.int .u64 (e2 z44))).setCell ⟨q4, 3, none⟩ (.int .u64 (e3 z44))).setCell ⟨q4, 4, none⟩ (.int .u64 (e0 z50))).setCell ⟨q4, 5, none⟩ (.int .u64 (e1 z50))).setCell ⟨q4, 6, none⟩ (.int .u64 (e2 z50))).setCell ⟨q4, 7, none⟩ (.int .u64 (e3 z50))) q3 z40x z40z) := fr_o8 R6.out (by omega) _ _ _ _ _ _ _ _
 clear nc0 nf0 nc1 nf1 nc2 nf2 nc3 nf3 nc4 nf4 nc5 nf5 nc6 nf6 nc7 nf7
 generalize (((((((x5_16.setCell ⟨q4, 0, none⟩ (.int .u64 (e0 z44))).setCell ⟨q4, 1, none⟩ (.int .u64 (e1 z44))).setCell ⟨q4, 2, none⟩ (.int .u64 (e2 z44))).setCell ⟨q4, 3, none⟩ (.int .u64 (e3 z44))).setCell ⟨q4, 4, none⟩ (.int .u64 (e0 z50))).setCell ⟨q4, 5, none⟩ (.int .u64 (e1 z50))).setCell ⟨q4, 6, none⟩ (.int .u64 (e2 z50))).setCell ⟨q4, 7, none⟩ (.int .u64 (e3 z50)) = x5_17 at *
 refine wpAnyH_done (by kernel_rfl) ?_ _
 refine NoPanic.normal ?_
 obtain ⟨p6_0, p6_1, p6_2, p6_3, p6_4, p6_5, p6_6, p6_7⟩ := R6.out
 obtain ⟨p7_0, p7_1, p7_2, p7_3, p7_4, p7_5, p7_6, p7_7⟩ := R7.out
 go_wp2
 refine bodyPost_ret (v := .tuple #[(.agg #[.int .u64 (e0 z40x), .int .u64 (e1 z40x), .int .u64 (e2 z40x), .int .u64 (e3 z40x), .int .u64 (e0 z40z), .int .u64 (e1 z40z), .int .u64 (e2 z40z), .int .u64 (e3 z40z)]), (.agg #[.int .u64 (e0 z44), .int .u64 (e1 z44), .int .u64 (e2 z44), .int .u64 (e3 z44), .int .u64 (e0 z50), .int .u64 (e1 z50), .int .u64 (e2 z50), .int .u64 (e3 z50)])]) (by simp [results, Tryz.results69, go_sem, p6_0, p6_1, p6_2, p6_3, p6_4, p6_5, p6_6, p6_7, p7_0, p7_1, p7_2, p7_3, p7_4, p7_5, p7_6, p7_7]) rfl ⟨_, _, _, _, rfl, hz40x, hz40z, hz44, hz50, ?_, (hH.below HB.out (fun b hb => by simp only [List.mem_cons, List.not_mem_nil, or_false] at hb; omega))⟩
 unfold Hid dbX dbZ adX adZ sq
 rw [Hz40x.out, Hz40z.out, Hz37.out, Hz39.out, Hz44.out, Hz43.out, Hz50.out, Hz49.out, Hz48.out, Hv10.out, Hv11.out, Hz16.out, Hz21.out]
 exact ⟨rfl, rfl, rfl, rfl⟩
end Go.Proofs.YtlnbjehimabaiaaGreatDoor.Fc
