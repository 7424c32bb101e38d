/-
  What curve's step does: a double and a sum of fractions. No statement of the seat is proved here.
-/
import Derived.Test.YtggjifpcoidipaaDoorCDbl
namespace Go.Proofs.YtggjifpcoidipaaDoor
open Go.RowKit

/-- The ladder's steps. -/
def sq (x : Int) : Int := fm x x
def dbX (x z : Int) : Int := fm (sq (fa x z)) (sq (fs x z))
def dbZ (x z : Int) : Int := dbz (sq (fa x z)) (sq (fs x z))
def adX (x2 z2 x3 z3 : Int) : Int := sq (fa (fm (fs x3 z3) (fa x2 z2)) (fm (fa x3 z3) (fs x2 z2)))
def adZ (s x2 z2 x3 z3 : Int) : Int := fm s (sq (fs (fm (fs x3 z3) (fa x2 z2)) (fm (fa x3 z3) (fs x2 z2))))

set_option maxHeartbeats 4000000 in
theorem step_c (x2 z2 x3 z3 s : Int) (hx2 : El x2) (hz2 : El z2) (hx3 : El x3) (hz3 : El z3) (hs : El s) (w : World) :
    Calls Tryd.prog 39 #[(.agg #[.int .u64 (e0 x2), .int .u64 (e1 x2), .int .u64 (e2 x2), .int .u64 (e3 x2), .int .u64 (e0 z2), .int .u64 (e1 z2), .int .u64 (e2 z2), .int .u64 (e3 z2)]), (.agg #[.int .u64 (e0 x3), .int .u64 (e1 x3), .int .u64 (e2 x3), .int .u64 (e3 x3), .int .u64 (e0 z3), .int .u64 (e1 z3), .int .u64 (e2 z3), .int .u64 (e3 z3)]), (.agg #[.int .u64 (e0 s), .int .u64 (e1 s), .int .u64 (e2 s), .int .u64 (e3 s)])] w fun e w' => ∃ a b c d, e = .returned (.tuple #[(.agg #[.int .u64 (e0 a), .int .u64 (e1 a), .int .u64 (e2 a), .int .u64 (e3 a), .int .u64 (e0 b), .int .u64 (e1 b), .int .u64 (e2 b), .int .u64 (e3 b)]), (.agg #[.int .u64 (e0 c), .int .u64 (e1 c), .int .u64 (e2 c), .int .u64 (e3 c), .int .u64 (e0 d), .int .u64 (e1 d), .int .u64 (e2 d), .int .u64 (e3 d)])]) ∧ El a ∧ El b ∧ El c ∧ El d ∧ Hid (a = dbX x2 z2 ∧ b = dbZ x2 z2 ∧ c = adX x2 z2 x3 z3 ∧ d = adZ s x2 z2 x3 z3) ∧ Below w.heap.size w w' := by
  go_enter Tryd.func39, Tryd.ntmps39
  go_upto_region 1 with fail
  have HB : Hid (Below w.heap.size w (((((w.alloc (.cells #[.int .u64 (e0 x2), .int .u64 (e1 x2), .int .u64 (e2 x2), .int .u64 (e3 x2), .int .u64 (e0 z2), .int .u64 (e1 z2), .int .u64 (e2 z2), .int .u64 (e3 z2)] 63)).alloc (.cells #[.int .u64 (e0 x3), .int .u64 (e1 x3), .int .u64 (e2 x3), .int .u64 (e3 x3), .int .u64 (e0 z3), .int .u64 (e1 z3), .int .u64 (e2 z3), .int .u64 (e3 z3)] 63)).alloc (.cells #[.int .u64 (e0 s), .int .u64 (e1 s), .int .u64 (e2 s), .int .u64 (e3 s)] 28)).alloc (.cells #[.int .u64 0, .int .u64 0, .int .u64 0, .int .u64 0, .int .u64 0, .int .u64 0, .int .u64 0, .int .u64 0] 63)).alloc (.cells #[.int .u64 0, .int .u64 0, .int .u64 0, .int .u64 0, .int .u64 0, .int .u64 0, .int .u64 0, .int .u64 0] 63))) := bel5 _ _ _ _ _ _
  have F3 : Hid (Fr (((((w.alloc (.cells #[.int .u64 (e0 x2), .int .u64 (e1 x2), .int .u64 (e2 x2), .int .u64 (e3 x2), .int .u64 (e0 z2), .int .u64 (e1 z2), .int .u64 (e2 z2), .int .u64 (e3 z2)] 63)).alloc (.cells #[.int .u64 (e0 x3), .int .u64 (e1 x3), .int .u64 (e2 x3), .int .u64 (e3 x3), .int .u64 (e0 z3), .int .u64 (e1 z3), .int .u64 (e2 z3), .int .u64 (e3 z3)] 63)).alloc (.cells #[.int .u64 (e0 s), .int .u64 (e1 s), .int .u64 (e2 s), .int .u64 (e3 s)] 28)).alloc (.cells #[.int .u64 0, .int .u64 0, .int .u64 0, .int .u64 0, .int .u64 0, .int .u64 0, .int .u64 0, .int .u64 0] 63)).alloc (.cells #[.int .u64 0, .int .u64 0, .int .u64 0, .int .u64 0, .int .u64 0, .int .u64 0, .int .u64 0, .int .u64 0] 63)) (w.heap.size) x2 z2) := ⟨by simp [go_sem], by simp [go_sem], by simp [go_sem], by simp [go_sem], by simp [go_sem], by simp [go_sem], by simp [go_sem], by simp [go_sem]⟩
  have F4 : Hid (Fr (((((w.alloc (.cells #[.int .u64 (e0 x2), .int .u64 (e1 x2), .int .u64 (e2 x2), .int .u64 (e3 x2), .int .u64 (e0 z2), .int .u64 (e1 z2), .int .u64 (e2 z2), .int .u64 (e3 z2)] 63)).alloc (.cells #[.int .u64 (e0 x3), .int .u64 (e1 x3), .int .u64 (e2 x3), .int .u64 (e3 x3), .int .u64 (e0 z3), .int .u64 (e1 z3), .int .u64 (e2 z3), .int .u64 (e3 z3)] 63)).alloc (.cells #[.int .u64 (e0 s), .int .u64 (e1 s), .int .u64 (e2 s), .int .u64 (e3 s)] 28)).alloc (.cells #[.int .u64 0, .int .u64 0, .int .u64 0, .int .u64 0, .int .u64 0, .int .u64 0, .int .u64 0, .int .u64 0] 63)).alloc (.cells #[.int .u64 0, .int .u64 0, .int .u64 0, .int .u64 0, .int .u64 0, .int .u64 0, .int .u64 0, .int .u64 0] 63)) (w.heap.size + 1) x3 z3) := ⟨by simp [go_sem], by simp [go_sem], by simp [go_sem], by simp [go_sem], by simp [go_sem], by simp [go_sem], by simp [go_sem], by simp [go_sem]⟩
  have V5 : Hid (Var (((((w.alloc (.cells #[.int .u64 (e0 x2), .int .u64 (e1 x2), .int .u64 (e2 x2), .int .u64 (e3 x2), .int .u64 (e0 z2), .int .u64 (e1 z2), .int .u64 (e2 z2), .int .u64 (e3 z2)] 63)).alloc (.cells #[.int .u64 (e0 x3), .int .u64 (e1 x3), .int .u64 (e2 x3), .int .u64 (e3 x3), .int .u64 (e0 z3), .int .u64 (e1 z3), .int .u64 (e2 z3), .int .u64 (e3 z3)] 63)).alloc (.cells #[.int .u64 (e0 s), .int .u64 (e1 s), .int .u64 (e2 s), .int .u64 (e3 s)] 28)).alloc (.cells #[.int .u64 0, .int .u64 0, .int .u64 0, .int .u64 0, .int .u64 0, .int .u64 0, .int .u64 0, .int .u64 0] 63)).alloc (.cells #[.int .u64 0, .int .u64 0, .int .u64 0, .int .u64 0, .int .u64 0, .int .u64 0, .int .u64 0, .int .u64 0] 63)) (w.heap.size + 1 + 1) s) := ⟨by simp [go_sem], by simp [go_sem], by simp [go_sem], by simp [go_sem]⟩
  have O6 : Hid (Fo (((((w.alloc (.cells #[.int .u64 (e0 x2), .int .u64 (e1 x2), .int .u64 (e2 x2), .int .u64 (e3 x2), .int .u64 (e0 z2), .int .u64 (e1 z2), .int .u64 (e2 z2), .int .u64 (e3 z2)] 63)).alloc (.cells #[.int .u64 (e0 x3), .int .u64 (e1 x3), .int .u64 (e2 x3), .int .u64 (e3 x3), .int .u64 (e0 z3), .int .u64 (e1 z3), .int .u64 (e2 z3), .int .u64 (e3 z3)] 63)).alloc (.cells #[.int .u64 (e0 s), .int .u64 (e1 s), .int .u64 (e2 s), .int .u64 (e3 s)] 28)).alloc (.cells #[.int .u64 0, .int .u64 0, .int .u64 0, .int .u64 0, .int .u64 0, .int .u64 0, .int .u64 0, .int .u64 0] 63)).alloc (.cells #[.int .u64 0, .int .u64 0, .int .u64 0, .int .u64 0, .int .u64 0, .int .u64 0, .int .u64 0, .int .u64 0] 63)) (w.heap.size + 1 + 1 + 1)) := ⟨⟨_, by simp [go_sem]; rfl⟩, ⟨_, by simp [go_sem]; rfl⟩, ⟨_, by simp [go_sem]; rfl⟩, ⟨_, by simp [go_sem]; rfl⟩, ⟨_, by simp [go_sem]; rfl⟩, ⟨_, by simp [go_sem]; rfl⟩, ⟨_, by simp [go_sem]; rfl⟩, ⟨_, by simp [go_sem]; rfl⟩, by simp [go_sem], by simp [go_sem], by simp [go_sem], by simp [go_sem], by simp [go_sem], by simp [go_sem], by simp [go_sem], by simp [go_sem]⟩
  have O7 : Hid (Fo (((((w.alloc (.cells #[.int .u64 (e0 x2), .int .u64 (e1 x2), .int .u64 (e2 x2), .int .u64 (e3 x2), .int .u64 (e0 z2), .int .u64 (e1 z2), .int .u64 (e2 z2), .int .u64 (e3 z2)] 63)).alloc (.cells #[.int .u64 (e0 x3), .int .u64 (e1 x3), .int .u64 (e2 x3), .int .u64 (e3 x3), .int .u64 (e0 z3), .int .u64 (e1 z3), .int .u64 (e2 z3), .int .u64 (e3 z3)] 63)).alloc (.cells #[.int .u64 (e0 s), .int .u64 (e1 s), .int .u64 (e2 s), .int .u64 (e3 s)] 28)).alloc (.cells #[.int .u64 0, .int .u64 0, .int .u64 0, .int .u64 0, .int .u64 0, .int .u64 0, .int .u64 0, .int .u64 0] 63)).alloc (.cells #[.int .u64 0, .int .u64 0, .int .u64 0, .int .u64 0, .int .u64 0, .int .u64 0, .int .u64 0, .int .u64 0] 63)) (w.heap.size + 1 + 1 + 1 + 1)) := ⟨⟨_, by simp [go_sem]; rfl⟩, ⟨_, by simp [go_sem]; rfl⟩, ⟨_, by simp [go_sem]; rfl⟩, ⟨_, by simp [go_sem]; rfl⟩, ⟨_, by simp [go_sem]; rfl⟩, ⟨_, by simp [go_sem]; rfl⟩, ⟨_, by simp [go_sem]; rfl⟩, ⟨_, by simp [go_sem]; rfl⟩, by simp [go_sem], by simp [go_sem], by simp [go_sem], by simp [go_sem], by simp [go_sem], by simp [go_sem], by simp [go_sem], by simp [go_sem]⟩
  generalize ((((w.alloc (.cells #[.int .u64 (e0 x2), .int .u64 (e1 x2), .int .u64 (e2 x2), .int .u64 (e3 x2), .int .u64 (e0 z2), .int .u64 (e1 z2), .int .u64 (e2 z2), .int .u64 (e3 z2)] 63)).alloc (.cells #[.int .u64 (e0 x3), .int .u64 (e1 x3), .int .u64 (e2 x3), .int .u64 (e3 x3), .int .u64 (e0 z3), .int .u64 (e1 z3), .int .u64 (e2 z3), .int .u64 (e3 z3)] 63)).alloc (.cells #[.int .u64 (e0 s), .int .u64 (e1 s), .int .u64 (e2 s), .int .u64 (e3 s)] 28)).alloc (.cells #[.int .u64 0, .int .u64 0, .int .u64 0, .int .u64 0, .int .u64 0, .int .u64 0, .int .u64 0, .int .u64 0] 63)).alloc (.cells #[.int .u64 0, .int .u64 0, .int .u64 0, .int .u64 0, .int .u64 0, .int .u64 0, .int .u64 0, .int .u64 0] 63) = W0 at *
  have hq1 : w.heap.size < w.heap.size + 1 := by omega
  have hq2 : w.heap.size + 1 < w.heap.size + 1 + 1 := by omega
  have hq3 : w.heap.size + 1 + 1 < w.heap.size + 1 + 1 + 1 := by omega
  have hq4 : w.heap.size + 1 + 1 + 1 < w.heap.size + 1 + 1 + 1 + 1 := by omega
  have hw4 : w.heap.size ≤ w.heap.size + 1 + 1 + 1 + 1 := by omega
  have hw3 : w.heap.size ≤ w.heap.size + 1 + 1 + 1 := by omega
  have hw2 : w.heap.size ≤ w.heap.size + 1 + 1 := by omega
  have hw1 : w.heap.size ≤ w.heap.size + 1 := by omega
  have hw0 : w.heap.size ≤ w.heap.size := Nat.le_refl _
  generalize w.heap.size + 1 + 1 + 1 + 1 = q4 at *
  generalize w.heap.size + 1 + 1 + 1 = q3 at *
  generalize w.heap.size + 1 + 1 = q2 at *
  generalize w.heap.size + 1 = q1 at *
  obtain ⟨q0, hq0⟩ : ∃ q, q = w.heap.size := ⟨_, rfl⟩
  clear hq0 q0
  try obtain ⟨F3c0, F3c1, F3c2, F3c3, F3c4, F3c5, F3c6, F3c7⟩ := F3.out
  try obtain ⟨F3c0, F3c1, F3c2, F3c3, F3c4, F3c5, F3c6, F3c7⟩ := F3.out
  go_wp2_with fail
  refine (add_e x2 z2 hx2 hz2 _).mono ?_
  rintro e u1_0 ⟨z16, rfl, hz16, Hz16, hb1_0⟩
  have hc1_1 : Hid (Below W0.heap.size W0 u1_0) := hb1_0
  clear hb1_0
  try clear V5c0 V5c1 V5c2 V5c3
  try clear F3c0 F3c1 F3c2 F3c3 F3c4 F3c5 F3c6 F3c7
  try clear F4c0 F4c1 F4c2 F4c3 F4c4 F4c5 F4c6 F4c7
  go_upto_region 2 with fail
  have hX : Hid (Below W0.heap.size W0 (u1_0.alloc (.cells #[.int .u64 (e0 z16), .int .u64 (e1 z16), .int .u64 (e2 z16), .int .u64 (e3 z16)] 28))) := hc1_1.out.trans ((bel1 u1_0 _).mono hc1_1.out.size)
  have V8 : Hid (Var (u1_0.alloc (.cells #[.int .u64 (e0 z16), .int .u64 (e1 z16), .int .u64 (e2 z16), .int .u64 (e3 z16)] 28)) (u1_0.heap.size) z16) := var_new u1_0 z16 _
  have hge8 : w.heap.size ≤ u1_0.heap.size := Nat.le_trans HB.out.size hc1_1.out.size
  have lt8_V5 : q2 < u1_0.heap.size := (V5.out.later hc1_1.out).lt
  have lt8_F3 : w.heap.size < u1_0.heap.size := (F3.out.later hc1_1.out).lt
  have lt8_F4 : q1 < u1_0.heap.size := (F4.out.later hc1_1.out).lt
  have lt8_O6 : q3 < u1_0.heap.size := (O6.out.later hc1_1.out).lt
  have lt8_O7 : q4 < u1_0.heap.size := (O7.out.later hc1_1.out).lt
  generalize u1_0.alloc (.cells #[.int .u64 (e0 z16), .int .u64 (e1 z16), .int .u64 (e2 z16), .int .u64 (e3 z16)] 28) = W8 at *
  generalize u1_0.heap.size = b8 at *
  replace V5 : Hid (Var W8 q2 s) := V5.out.later hX.out
  replace F3 : Hid (Fr W8 w.heap.size x2 z2) := F3.out.later hX.out
  replace F4 : Hid (Fr W8 q1 x3 z3) := F4.out.later hX.out
  replace O6 : Hid (Fo W8 q3) := O6.out.later hX.out
  replace O7 : Hid (Fo W8 q4) := O7.out.later hX.out
  replace HB : Hid (Below w.heap.size w W8) := HB.out.trans (Below.mono hX.out HB.out.size)
  clear hX hc1_1
  try obtain ⟨F3c0, F3c1, F3c2, F3c3, F3c4, F3c5, F3c6, F3c7⟩ := F3.out
  try obtain ⟨F3c0, F3c1, F3c2, F3c3, F3c4, F3c5, F3c6, F3c7⟩ := F3.out
  go_wp2_with fail
  refine (sub_e x2 z2 hx2 hz2 _).mono ?_
  rintro e u2_0 ⟨z21, rfl, hz21, Hz21, hb2_0⟩
  have hc2_1 : Hid (Below W8.heap.size W8 u2_0) := hb2_0
  clear hb2_0
  try clear V5c0 V5c1 V5c2 V5c3
  try clear V8c0 V8c1 V8c2 V8c3
  try clear F3c0 F3c1 F3c2 F3c3 F3c4 F3c5 F3c6 F3c7
  try clear F4c0 F4c1 F4c2 F4c3 F4c4 F4c5 F4c6 F4c7
  go_upto_region 3 with fail
  have hX : Hid (Below W8.heap.size W8 (u2_0.alloc (.cells #[.int .u64 (e0 z21), .int .u64 (e1 z21), .int .u64 (e2 z21), .int .u64 (e3 z21)] 28))) := hc2_1.out.trans ((bel1 u2_0 _).mono hc2_1.out.size)
  have V9 : Hid (Var (u2_0.alloc (.cells #[.int .u64 (e0 z21), .int .u64 (e1 z21), .int .u64 (e2 z21), .int .u64 (e3 z21)] 28)) (u2_0.heap.size) z21) := var_new u2_0 z21 _
  have hge9 : w.heap.size ≤ u2_0.heap.size := Nat.le_trans HB.out.size hc2_1.out.size
  have lt9_V5 : q2 < u2_0.heap.size := (V5.out.later hc2_1.out).lt
  have lt9_V8 : b8 < u2_0.heap.size := (V8.out.later hc2_1.out).lt
  have lt9_F3 : w.heap.size < u2_0.heap.size := (F3.out.later hc2_1.out).lt
  have lt9_F4 : q1 < u2_0.heap.size := (F4.out.later hc2_1.out).lt
  have lt9_O6 : q3 < u2_0.heap.size := (O6.out.later hc2_1.out).lt
  have lt9_O7 : q4 < u2_0.heap.size := (O7.out.later hc2_1.out).lt
  generalize u2_0.alloc (.cells #[.int .u64 (e0 z21), .int .u64 (e1 z21), .int .u64 (e2 z21), .int .u64 (e3 z21)] 28) = W9 at *
  generalize u2_0.heap.size = b9 at *
  replace V5 : Hid (Var W9 q2 s) := V5.out.later hX.out
  replace V8 : Hid (Var W9 b8 z16) := V8.out.later hX.out
  replace F3 : Hid (Fr W9 w.heap.size x2 z2) := F3.out.later hX.out
  replace F4 : Hid (Fr W9 q1 x3 z3) := F4.out.later hX.out
  replace O6 : Hid (Fo W9 q3) := O6.out.later hX.out
  replace O7 : Hid (Fo W9 q4) := O7.out.later hX.out
  replace HB : Hid (Below w.heap.size w W9) := HB.out.trans (Below.mono hX.out HB.out.size)
  clear hX hc2_1
  have lw3_F3 : w.heap.size < W9.heap.size := F3.out.lt
  have lw3_F4 : q1 < W9.heap.size := F4.out.lt
  have lw3_O6 : q3 < W9.heap.size := O6.out.lt
  have lw3_O7 : q4 < W9.heap.size := O7.out.lt
  have lw3_V5 : q2 < W9.heap.size := V5.out.lt
  have lw3_V8 : b8 < W9.heap.size := V8.out.lt
  have lw3_V9 : b9 < W9.heap.size := V9.out.lt
  go_cut [10] from 12 (fun tv10 wc => ∃ (b10 : Nat) (v10 : Int), tv10 = .pointer (some ⟨b10, 0, none⟩) ∧ El v10 ∧ Hid (v10 = fm (fs x3 z3) z16) ∧ Hid (Var wc b10 v10) ∧ W9.heap.size ≤ b10 ∧ Hid (Below W9.heap.size W9 wc))
  case first =>
    obtain ⟨F4c0, F4c1, F4c2, F4c3, F4c4, F4c5, F4c6, F4c7⟩ := F4.out
    have F4u0 : ∀ u, Ext W9 u → u.cell? ⟨q1, 0, none⟩ = some (.int .u64 (e0 x3)) := fun u hu => hu.cell  F4c0
    have F4u1 : ∀ u, Ext W9 u → u.cell? ⟨q1, 1, none⟩ = some (.int .u64 (e1 x3)) := fun u hu => hu.cell  F4c1
    have F4u2 : ∀ u, Ext W9 u → u.cell? ⟨q1, 2, none⟩ = some (.int .u64 (e2 x3)) := fun u hu => hu.cell  F4c2
    have F4u3 : ∀ u, Ext W9 u → u.cell? ⟨q1, 3, none⟩ = some (.int .u64 (e3 x3)) := fun u hu => hu.cell  F4c3
    have F4u4 : ∀ u, Ext W9 u → u.cell? ⟨q1, 4, none⟩ = some (.int .u64 (e0 z3)) := fun u hu => hu.cell  F4c4
    have F4u5 : ∀ u, Ext W9 u → u.cell? ⟨q1, 5, none⟩ = some (.int .u64 (e1 z3)) := fun u hu => hu.cell  F4c5
    have F4u6 : ∀ u, Ext W9 u → u.cell? ⟨q1, 6, none⟩ = some (.int .u64 (e2 z3)) := fun u hu => hu.cell  F4c6
    have F4u7 : ∀ u, Ext W9 u → u.cell? ⟨q1, 7, none⟩ = some (.int .u64 (e3 z3)) := fun u hu => hu.cell  F4c7
    clear F4c0 F4c1 F4c2 F4c3 F4c4 F4c5 F4c6 F4c7
    obtain ⟨V8c0, V8c1, V8c2, V8c3⟩ := V8.out
    have V8u0 : ∀ u, Ext W9 u → u.cell? ⟨b8, 0, none⟩ = some (.int .u64 (e0 z16)) := fun u hu => hu.cell  V8c0
    have V8u1 : ∀ u, Ext W9 u → u.cell? ⟨b8, 1, none⟩ = some (.int .u64 (e1 z16)) := fun u hu => hu.cell  V8c1
    have V8u2 : ∀ u, Ext W9 u → u.cell? ⟨b8, 2, none⟩ = some (.int .u64 (e2 z16)) := fun u hu => hu.cell  V8c2
    have V8u3 : ∀ u, Ext W9 u → u.cell? ⟨b8, 3, none⟩ = some (.int .u64 (e3 z16)) := fun u hu => hu.cell  V8c3
    clear V8c0 V8c1 V8c2 V8c3
    refine wp_region_noPanic ?_
    refine wp_region_held_drew (S := Ext W9) (by kernel_rfl) (Ext.refl _).drew (fun hH => ?_)
    change wpAnyH _ _ _ _ _ _ #[false, false, false, false, false, false, false, false, false] _ _
    have hWs : w.heap.size ≤ W9.heap.size := HB.out.size
    generalize W9.drew = y0 at *
    refine wpAnyH_take (i := 0) (oi := ?o03w1) (v := ?v03w1) ?h03w1 (by kernel_rfl) ?f03w1 ?r03w1 (fun _ _ _ h => h) (Or.inl ⟨?w03w1, ?y03w1⟩) (by assumption) ?t03w1
    case h03w1 => simp only [List.getElem?_toArray]; rfl
    case f03w1 => kernel_rfl
    case r03w1 => kernel_rfl
    case w03w1 => rfl
    case y03w1 => (intro u hu; (go_simp) <;> with_reducible rfl)
    try simp only [Act.put, List.setIfInBounds_toArray, List.set_cons_zero, List.set_cons_succ]
    refine wpAnyH_take (i := 1) (oi := ?o13w2) (v := ?v13w2) ?h13w2 (by kernel_rfl) ?f13w2 ?r13w2 (fun _ _ _ h => h) (Or.inl ⟨?w13w2, ?y13w2⟩) (by assumption) ?t13w2
    case h13w2 => simp only [List.getElem?_toArray]; rfl
    case f13w2 => kernel_rfl
    case r13w2 => kernel_rfl
    case w13w2 => rfl
    case y13w2 => (intro u hu; (go_simp) <;> with_reducible rfl)
    try simp only [Act.put, List.setIfInBounds_toArray, List.set_cons_zero, List.set_cons_succ]
    refine wpAnyH_take (i := 2) (oi := ?o23w3) (v := ?v23w3) ?h23w3 (by kernel_rfl) ?f23w3 ?r23w3 (fun _ _ _ h => h) (Or.inl ⟨?w23w3, ?y23w3⟩) (by assumption) ?t23w3
    case h23w3 => simp only [List.getElem?_toArray]; rfl
    case f23w3 => kernel_rfl
    case r23w3 => kernel_rfl
    case w23w3 => rfl
    case y23w3 => (intro u hu; (go_simp) <;> with_reducible rfl)
    try simp only [Act.put, List.setIfInBounds_toArray, List.set_cons_zero, List.set_cons_succ]
    refine wpAnyH_take (i := 3) (oi := ?o33w4) (v := ?v33w4) ?h33w4 (by kernel_rfl) ?f33w4 ?r33w4 (fun _ _ _ h => h) (Or.inl ⟨?w33w4, ?y33w4⟩) (by assumption) ?t33w4
    case h33w4 => simp only [List.getElem?_toArray]; rfl
    case f33w4 => kernel_rfl
    case r33w4 => kernel_rfl
    case w33w4 => rfl
    case y33w4 => (intro u hu; (go_simp) <;> with_reducible rfl)
    try simp only [Act.put, List.setIfInBounds_toArray, List.set_cons_zero, List.set_cons_succ]
    refine wpAnyH_take (i := 5) (oi := ?o53w5) (v := ?v53w5) ?h53w5 (by kernel_rfl) ?f53w5 ?r53w5 (fun _ _ _ h => h) (Or.inl ⟨?w53w5, ?y53w5⟩) (by assumption) ?t53w5
    case h53w5 => simp only [List.getElem?_toArray]; rfl
    case f53w5 => kernel_rfl
    case r53w5 => kernel_rfl
    case w53w5 => rfl
    case y53w5 => (intro u hu; (go_simp) <;> with_reducible rfl)
    try simp only [Act.put, List.setIfInBounds_toArray, List.set_cons_zero, List.set_cons_succ]
    refine wpAnyH_ready (rs := [4, 7]) (by kernel_rfl) (by simp) ?_
    refine AllReadyH.cons (o := ?o43w6) ?h43w6 (fun K hK => ?c43w6) (AllReadyH.cons (o := ?o73w6) ?h73w6 (fun K hK => ?c73w6) AllReadyH.nil)
    case h43w6 => simp only [List.getElem?_toArray]; rfl
    case h73w6 => simp only [List.getElem?_toArray]; rfl
    case c43w6 =>
      go_simp
      refine (sub_e x3 z3 hx3 hz3 _).mono ?_
      rintro e y3w7 ⟨z26, rfl, hz26, Hz26, hb3w7⟩
      refine hK.out _ _ (hH.trans hb3w7) (fun hH' => ?_)
      clear hK K hH
      have hH := hH'
      clear hH'
      try simp only [List.setIfInBounds_toArray, List.set]
      clear hb3w7
      refine wpAnyH_ready (rs := [6, 7]) (by kernel_rfl) (by simp) ?_
      refine AllReadyH.cons (o := ?o63w8) ?h63w8 (fun K hK => ?c63w8) (AllReadyH.cons (o := ?o73w8) ?h73w8 (fun K hK => ?c73w8) AllReadyH.nil)
      case h63w8 => simp only [List.getElem?_toArray]; rfl
      case h73w8 => simp only [List.getElem?_toArray]; rfl
      case c63w8 =>
        go_simp
        refine (mul_e z26 z16 hz26 hz16 _).mono ?_
        rintro e y3w9 ⟨z28, rfl, hz28, Hz28, hb3w9⟩
        refine hK.out _ _ (hH.trans hb3w9) (fun hH' => ?_)
        clear hK K hH
        have hH := hH'
        clear hH'
        try simp only [List.setIfInBounds_toArray, List.set]
        clear hb3w9
        refine wpAnyH_ready (rs := [7]) (by kernel_rfl) (by simp) ?_
        refine AllReadyH.cons (o := ?o73w10) ?h73w10 (fun K hK => ?_) AllReadyH.nil
        case h73w10 => simp only [List.getElem?_toArray]; rfl
        go_simp
        have hL10 : W9.heap.size ≤ y3w9.heap.size := hH.size
        refine hK.out _ _ (hH.trans (bel1 _ _)) (fun hH' => ?_)
        clear hK K hH
        have hH := hH'
        clear hH'
        try simp only [List.setIfInBounds_toArray, List.set]
        have O10w : Hid (Own (y3w9.alloc (.cells #[.int .u64 0, .int .u64 0, .int .u64 0, .int .u64 0] 28)) y3w9.heap.size) := own_new y3w9 _ _ _ _ _
        generalize y3w9.alloc (.cells #[.int .u64 0, .int .u64 0, .int .u64 0, .int .u64 0] 28) = x3w10 at *
        generalize y3w9.heap.size = b10w at *
        have hg10 : W9.heap.size ≤ b10w := hL10
        obtain ⟨⟨_, nc0⟩, ⟨_, nc1⟩, ⟨_, nc2⟩, ⟨_, nc3⟩, nf0, nf1, nf2, nf3⟩ := O10w.out
        refine wpAnyH_ready (rs := [8]) (by kernel_rfl) (by simp) ?_
        refine AllReadyH.cons (o := ?o83w11) ?h83w11 (fun K hK => ?_) AllReadyH.nil
        case h83w11 => simp only [List.getElem?_toArray]; rfl
        go_simp
        refine hK.out _ _ (hH.set4 _ (by omega) _ _ _ _) (fun hH' => ?_)
        clear hK K hH
        have hH := hH'
        clear hH'
        try simp only [List.setIfInBounds_toArray, List.set]
        have V10w : Hid (Var ((((x3w10.setCell ⟨b10w, 0, none⟩ (.int .u64 (e0 z28))).setCell ⟨b10w, 1, none⟩ (.int .u64 (e1 z28))).setCell ⟨b10w, 2, none⟩ (.int .u64 (e2 z28))).setCell ⟨b10w, 3, none⟩ (.int .u64 (e3 z28))) b10w z28) := var_set x3w10 b10w z28 O10w.out
        clear O10w nc0 nc1 nc2 nc3 nf0 nf1 nf2 nf3
        generalize (((x3w10.setCell ⟨b10w, 0, none⟩ (.int .u64 (e0 z28))).setCell ⟨b10w, 1, none⟩ (.int .u64 (e1 z28))).setCell ⟨b10w, 2, none⟩ (.int .u64 (e2 z28))).setCell ⟨b10w, 3, none⟩ (.int .u64 (e3 z28)) = x3w11 at *
        refine wpAnyH_done (by kernel_rfl) ?_ _
        refine NoPanic.normal ?_
        go_wp2_with fail
        go_meet
        case rel => exact ⟨_, _, rfl, hz28, (by unfold Hid; rw [Hz28.out, Hz26.out]; rfl), V10w, hg10, hH⟩
      case c73w8 =>
        go_simp
        have hL10 : W9.heap.size ≤ y3w7.heap.size := hH.size
        refine hK.out _ _ (hH.trans (bel1 _ _)) (fun hH' => ?_)
        clear hK K hH
        have hH := hH'
        clear hH'
        try simp only [List.setIfInBounds_toArray, List.set]
        have O10w : Hid (Own (y3w7.alloc (.cells #[.int .u64 0, .int .u64 0, .int .u64 0, .int .u64 0] 28)) y3w7.heap.size) := own_new y3w7 _ _ _ _ _
        generalize y3w7.alloc (.cells #[.int .u64 0, .int .u64 0, .int .u64 0, .int .u64 0] 28) = x3w12 at *
        generalize y3w7.heap.size = b10w at *
        have hg10 : W9.heap.size ≤ b10w := hL10
        refine wpAnyH_ready (rs := [6]) (by kernel_rfl) (by simp) ?_
        refine AllReadyH.cons (o := ?o63w13) ?h63w13 (fun K hK => ?_) AllReadyH.nil
        case h63w13 => simp only [List.getElem?_toArray]; rfl
        go_simp
        refine (mul_e z26 z16 hz26 hz16 _).mono ?_
        rintro e y3w13 ⟨z28, rfl, hz28, Hz28, hb3w13⟩
        refine hK.out _ _ (hH.trans hb3w13) (fun hH' => ?_)
        clear hK K hH
        have hH := hH'
        clear hH'
        try simp only [List.setIfInBounds_toArray, List.set]
        replace O10w : Hid (Own y3w13 b10w) := O10w.out.later hb3w13
        clear hb3w13
        obtain ⟨⟨_, nc0⟩, ⟨_, nc1⟩, ⟨_, nc2⟩, ⟨_, nc3⟩, nf0, nf1, nf2, nf3⟩ := O10w.out
        refine wpAnyH_ready (rs := [8]) (by kernel_rfl) (by simp) ?_
        refine AllReadyH.cons (o := ?o83w14) ?h83w14 (fun K hK => ?_) AllReadyH.nil
        case h83w14 => simp only [List.getElem?_toArray]; rfl
        go_simp
        refine hK.out _ _ (hH.set4 _ (by omega) _ _ _ _) (fun hH' => ?_)
        clear hK K hH
        have hH := hH'
        clear hH'
        try simp only [List.setIfInBounds_toArray, List.set]
        have V10w : Hid (Var ((((y3w13.setCell ⟨b10w, 0, none⟩ (.int .u64 (e0 z28))).setCell ⟨b10w, 1, none⟩ (.int .u64 (e1 z28))).setCell ⟨b10w, 2, none⟩ (.int .u64 (e2 z28))).setCell ⟨b10w, 3, none⟩ (.int .u64 (e3 z28))) b10w z28) := var_set y3w13 b10w z28 O10w.out
        clear O10w nc0 nc1 nc2 nc3 nf0 nf1 nf2 nf3
        generalize (((y3w13.setCell ⟨b10w, 0, none⟩ (.int .u64 (e0 z28))).setCell ⟨b10w, 1, none⟩ (.int .u64 (e1 z28))).setCell ⟨b10w, 2, none⟩ (.int .u64 (e2 z28))).setCell ⟨b10w, 3, none⟩ (.int .u64 (e3 z28)) = x3w14 at *
        refine wpAnyH_done (by kernel_rfl) ?_ _
        refine NoPanic.normal ?_
        go_wp2_with fail
        go_meet
        case rel => exact ⟨_, _, rfl, hz28, (by unfold Hid; rw [Hz28.out, Hz26.out]; rfl), V10w, hg10, hH⟩
    case c73w6 =>
      go_simp
      have hL10 : W9.heap.size ≤ y0.heap.size := hH.size
      refine hK.out _ _ (hH.trans (bel1 _ _)) (fun hH' => ?_)
      clear hK K hH
      have hH := hH'
      clear hH'
      try simp only [List.setIfInBounds_toArray, List.set]
      have O10w : Hid (Own (y0.alloc (.cells #[.int .u64 0, .int .u64 0, .int .u64 0, .int .u64 0] 28)) y0.heap.size) := own_new y0 _ _ _ _ _
      generalize y0.alloc (.cells #[.int .u64 0, .int .u64 0, .int .u64 0, .int .u64 0] 28) = x3w15 at *
      generalize y0.heap.size = b10w at *
      have hg10 : W9.heap.size ≤ b10w := hL10
      refine wpAnyH_ready (rs := [4]) (by kernel_rfl) (by simp) ?_
      refine AllReadyH.cons (o := ?o43w16) ?h43w16 (fun K hK => ?_) AllReadyH.nil
      case h43w16 => simp only [List.getElem?_toArray]; rfl
      go_simp
      refine (sub_e x3 z3 hx3 hz3 _).mono ?_
      rintro e y3w16 ⟨z26, rfl, hz26, Hz26, hb3w16⟩
      refine hK.out _ _ (hH.trans hb3w16) (fun hH' => ?_)
      clear hK K hH
      have hH := hH'
      clear hH'
      try simp only [List.setIfInBounds_toArray, List.set]
      replace O10w : Hid (Own y3w16 b10w) := O10w.out.later hb3w16
      clear hb3w16
      refine wpAnyH_ready (rs := [6]) (by kernel_rfl) (by simp) ?_
      refine AllReadyH.cons (o := ?o63w17) ?h63w17 (fun K hK => ?_) AllReadyH.nil
      case h63w17 => simp only [List.getElem?_toArray]; rfl
      go_simp
      refine (mul_e z26 z16 hz26 hz16 _).mono ?_
      rintro e y3w17 ⟨z28, rfl, hz28, Hz28, hb3w17⟩
      refine hK.out _ _ (hH.trans hb3w17) (fun hH' => ?_)
      clear hK K hH
      have hH := hH'
      clear hH'
      try simp only [List.setIfInBounds_toArray, List.set]
      replace O10w : Hid (Own y3w17 b10w) := O10w.out.later hb3w17
      clear hb3w17
      obtain ⟨⟨_, nc0⟩, ⟨_, nc1⟩, ⟨_, nc2⟩, ⟨_, nc3⟩, nf0, nf1, nf2, nf3⟩ := O10w.out
      refine wpAnyH_ready (rs := [8]) (by kernel_rfl) (by simp) ?_
      refine AllReadyH.cons (o := ?o83w18) ?h83w18 (fun K hK => ?_) AllReadyH.nil
      case h83w18 => simp only [List.getElem?_toArray]; rfl
      go_simp
      refine hK.out _ _ (hH.set4 _ (by omega) _ _ _ _) (fun hH' => ?_)
      clear hK K hH
      have hH := hH'
      clear hH'
      try simp only [List.setIfInBounds_toArray, List.set]
      have V10w : Hid (Var ((((y3w17.setCell ⟨b10w, 0, none⟩ (.int .u64 (e0 z28))).setCell ⟨b10w, 1, none⟩ (.int .u64 (e1 z28))).setCell ⟨b10w, 2, none⟩ (.int .u64 (e2 z28))).setCell ⟨b10w, 3, none⟩ (.int .u64 (e3 z28))) b10w z28) := var_set y3w17 b10w z28 O10w.out
      clear O10w nc0 nc1 nc2 nc3 nf0 nf1 nf2 nf3
      generalize (((y3w17.setCell ⟨b10w, 0, none⟩ (.int .u64 (e0 z28))).setCell ⟨b10w, 1, none⟩ (.int .u64 (e1 z28))).setCell ⟨b10w, 2, none⟩ (.int .u64 (e2 z28))).setCell ⟨b10w, 3, none⟩ (.int .u64 (e3 z28)) = x3w18 at *
      refine wpAnyH_done (by kernel_rfl) ?_ _
      refine NoPanic.normal ?_
      go_wp2_with fail
      go_meet
      case rel => exact ⟨_, _, rfl, hz28, (by unfold Hid; rw [Hz28.out, Hz26.out]; rfl), V10w, hg10, hH⟩
  obtain ⟨b10, v10, rfl, hv10, Hv10, V10, hge10, hX⟩ := hcut
  generalize wc = W10 at *
  replace V5 : Hid (Var W10 q2 s) := V5.out.later hX.out
  replace V8 : Hid (Var W10 b8 z16) := V8.out.later hX.out
  replace V9 : Hid (Var W10 b9 z21) := V9.out.later hX.out
  replace F3 : Hid (Fr W10 w.heap.size x2 z2) := F3.out.later hX.out
  replace F4 : Hid (Fr W10 q1 x3 z3) := F4.out.later hX.out
  replace O6 : Hid (Fo W10 q3) := O6.out.later hX.out
  replace O7 : Hid (Fo W10 q4) := O7.out.later hX.out
  replace HB : Hid (Below w.heap.size w W10) := HB.out.trans (Below.mono hX.out HB.out.size)
  clear hX
  go_upto_region 4 with fail
  have lw4_F3 : w.heap.size < W10.heap.size := F3.out.lt
  have lw4_F4 : q1 < W10.heap.size := F4.out.lt
  have lw4_O6 : q3 < W10.heap.size := O6.out.lt
  have lw4_O7 : q4 < W10.heap.size := O7.out.lt
  have lw4_V5 : q2 < W10.heap.size := V5.out.lt
  have lw4_V8 : b8 < W10.heap.size := V8.out.lt
  have lw4_V9 : b9 < W10.heap.size := V9.out.lt
  have lw4_V10 : b10 < W10.heap.size := V10.out.lt
  go_cut [11] from 12 (fun tv11 wc => ∃ (b11 : Nat) (v11 : Int), tv11 = .pointer (some ⟨b11, 0, none⟩) ∧ El v11 ∧ Hid (v11 = fm (fa x3 z3) z21) ∧ Hid (Var wc b11 v11) ∧ W10.heap.size ≤ b11 ∧ Hid (Below W10.heap.size W10 wc))
  case first =>
    obtain ⟨F4c0, F4c1, F4c2, F4c3, F4c4, F4c5, F4c6, F4c7⟩ := F4.out
    have F4u0 : ∀ u, Ext W10 u → u.cell? ⟨q1, 0, none⟩ = some (.int .u64 (e0 x3)) := fun u hu => hu.cell  F4c0
    have F4u1 : ∀ u, Ext W10 u → u.cell? ⟨q1, 1, none⟩ = some (.int .u64 (e1 x3)) := fun u hu => hu.cell  F4c1
    have F4u2 : ∀ u, Ext W10 u → u.cell? ⟨q1, 2, none⟩ = some (.int .u64 (e2 x3)) := fun u hu => hu.cell  F4c2
    have F4u3 : ∀ u, Ext W10 u → u.cell? ⟨q1, 3, none⟩ = some (.int .u64 (e3 x3)) := fun u hu => hu.cell  F4c3
    have F4u4 : ∀ u, Ext W10 u → u.cell? ⟨q1, 4, none⟩ = some (.int .u64 (e0 z3)) := fun u hu => hu.cell  F4c4
    have F4u5 : ∀ u, Ext W10 u → u.cell? ⟨q1, 5, none⟩ = some (.int .u64 (e1 z3)) := fun u hu => hu.cell  F4c5
    have F4u6 : ∀ u, Ext W10 u → u.cell? ⟨q1, 6, none⟩ = some (.int .u64 (e2 z3)) := fun u hu => hu.cell  F4c6
    have F4u7 : ∀ u, Ext W10 u → u.cell? ⟨q1, 7, none⟩ = some (.int .u64 (e3 z3)) := fun u hu => hu.cell  F4c7
    clear F4c0 F4c1 F4c2 F4c3 F4c4 F4c5 F4c6 F4c7
    obtain ⟨V9c0, V9c1, V9c2, V9c3⟩ := V9.out
    have V9u0 : ∀ u, Ext W10 u → u.cell? ⟨b9, 0, none⟩ = some (.int .u64 (e0 z21)) := fun u hu => hu.cell  V9c0
    have V9u1 : ∀ u, Ext W10 u → u.cell? ⟨b9, 1, none⟩ = some (.int .u64 (e1 z21)) := fun u hu => hu.cell  V9c1
    have V9u2 : ∀ u, Ext W10 u → u.cell? ⟨b9, 2, none⟩ = some (.int .u64 (e2 z21)) := fun u hu => hu.cell  V9c2
    have V9u3 : ∀ u, Ext W10 u → u.cell? ⟨b9, 3, none⟩ = some (.int .u64 (e3 z21)) := fun u hu => hu.cell  V9c3
    clear V9c0 V9c1 V9c2 V9c3
    refine wp_region_noPanic ?_
    refine wp_region_held_drew (S := Ext W10) (by kernel_rfl) (Ext.refl _).drew (fun hH => ?_)
    change wpAnyH _ _ _ _ _ _ #[false, false, false, false, false, false, false, false, false] _ _
    have hWs : w.heap.size ≤ W10.heap.size := HB.out.size
    generalize W10.drew = y0 at *
    refine wpAnyH_take (i := 0) (oi := ?o04w1) (v := ?v04w1) ?h04w1 (by kernel_rfl) ?f04w1 ?r04w1 (fun _ _ _ h => h) (Or.inl ⟨?w04w1, ?y04w1⟩) (by assumption) ?t04w1
    case h04w1 => simp only [List.getElem?_toArray]; rfl
    case f04w1 => kernel_rfl
    case r04w1 => kernel_rfl
    case w04w1 => rfl
    case y04w1 => (intro u hu; (go_simp) <;> with_reducible rfl)
    try simp only [Act.put, List.setIfInBounds_toArray, List.set_cons_zero, List.set_cons_succ]
    refine wpAnyH_take (i := 1) (oi := ?o14w2) (v := ?v14w2) ?h14w2 (by kernel_rfl) ?f14w2 ?r14w2 (fun _ _ _ h => h) (Or.inl ⟨?w14w2, ?y14w2⟩) (by assumption) ?t14w2
    case h14w2 => simp only [List.getElem?_toArray]; rfl
    case f14w2 => kernel_rfl
    case r14w2 => kernel_rfl
    case w14w2 => rfl
    case y14w2 => (intro u hu; (go_simp) <;> with_reducible rfl)
    try simp only [Act.put, List.setIfInBounds_toArray, List.set_cons_zero, List.set_cons_succ]
    refine wpAnyH_take (i := 2) (oi := ?o24w3) (v := ?v24w3) ?h24w3 (by kernel_rfl) ?f24w3 ?r24w3 (fun _ _ _ h => h) (Or.inl ⟨?w24w3, ?y24w3⟩) (by assumption) ?t24w3
    case h24w3 => simp only [List.getElem?_toArray]; rfl
    case f24w3 => kernel_rfl
    case r24w3 => kernel_rfl
    case w24w3 => rfl
    case y24w3 => (intro u hu; (go_simp) <;> with_reducible rfl)
    try simp only [Act.put, List.setIfInBounds_toArray, List.set_cons_zero, List.set_cons_succ]
    refine wpAnyH_take (i := 3) (oi := ?o34w4) (v := ?v34w4) ?h34w4 (by kernel_rfl) ?f34w4 ?r34w4 (fun _ _ _ h => h) (Or.inl ⟨?w34w4, ?y34w4⟩) (by assumption) ?t34w4
    case h34w4 => simp only [List.getElem?_toArray]; rfl
    case f34w4 => kernel_rfl
    case r34w4 => kernel_rfl
    case w34w4 => rfl
    case y34w4 => (intro u hu; (go_simp) <;> with_reducible rfl)
    try simp only [Act.put, List.setIfInBounds_toArray, List.set_cons_zero, List.set_cons_succ]
    refine wpAnyH_take (i := 5) (oi := ?o54w5) (v := ?v54w5) ?h54w5 (by kernel_rfl) ?f54w5 ?r54w5 (fun _ _ _ h => h) (Or.inl ⟨?w54w5, ?y54w5⟩) (by assumption) ?t54w5
    case h54w5 => simp only [List.getElem?_toArray]; rfl
    case f54w5 => kernel_rfl
    case r54w5 => kernel_rfl
    case w54w5 => rfl
    case y54w5 => (intro u hu; (go_simp) <;> with_reducible rfl)
    try simp only [Act.put, List.setIfInBounds_toArray, List.set_cons_zero, List.set_cons_succ]
    refine wpAnyH_ready (rs := [4, 7]) (by kernel_rfl) (by simp) ?_
    refine AllReadyH.cons (o := ?o44w6) ?h44w6 (fun K hK => ?c44w6) (AllReadyH.cons (o := ?o74w6) ?h74w6 (fun K hK => ?c74w6) AllReadyH.nil)
    case h44w6 => simp only [List.getElem?_toArray]; rfl
    case h74w6 => simp only [List.getElem?_toArray]; rfl
    case c44w6 =>
      go_simp
      refine (add_e x3 z3 hx3 hz3 _).mono ?_
      rintro e y4w7 ⟨z33, rfl, hz33, Hz33, hb4w7⟩
      refine hK.out _ _ (hH.trans hb4w7) (fun hH' => ?_)
      clear hK K hH
      have hH := hH'
      clear hH'
      try simp only [List.setIfInBounds_toArray, List.set]
      clear hb4w7
      refine wpAnyH_ready (rs := [6, 7]) (by kernel_rfl) (by simp) ?_
      refine AllReadyH.cons (o := ?o64w8) ?h64w8 (fun K hK => ?c64w8) (AllReadyH.cons (o := ?o74w8) ?h74w8 (fun K hK => ?c74w8) AllReadyH.nil)
      case h64w8 => simp only [List.getElem?_toArray]; rfl
      case h74w8 => simp only [List.getElem?_toArray]; rfl
      case c64w8 =>
        go_simp
        refine (mul_e z33 z21 hz33 hz21 _).mono ?_
        rintro e y4w9 ⟨z35, rfl, hz35, Hz35, hb4w9⟩
        refine hK.out _ _ (hH.trans hb4w9) (fun hH' => ?_)
        clear hK K hH
        have hH := hH'
        clear hH'
        try simp only [List.setIfInBounds_toArray, List.set]
        clear hb4w9
        refine wpAnyH_ready (rs := [7]) (by kernel_rfl) (by simp) ?_
        refine AllReadyH.cons (o := ?o74w10) ?h74w10 (fun K hK => ?_) AllReadyH.nil
        case h74w10 => simp only [List.getElem?_toArray]; rfl
        go_simp
        have hL11 : W10.heap.size ≤ y4w9.heap.size := hH.size
        refine hK.out _ _ (hH.trans (bel1 _ _)) (fun hH' => ?_)
        clear hK K hH
        have hH := hH'
        clear hH'
        try simp only [List.setIfInBounds_toArray, List.set]
        have O11w : Hid (Own (y4w9.alloc (.cells #[.int .u64 0, .int .u64 0, .int .u64 0, .int .u64 0] 28)) y4w9.heap.size) := own_new y4w9 _ _ _ _ _
        generalize y4w9.alloc (.cells #[.int .u64 0, .int .u64 0, .int .u64 0, .int .u64 0] 28) = x4w10 at *
        generalize y4w9.heap.size = b11w at *
        have hg11 : W10.heap.size ≤ b11w := hL11
        obtain ⟨⟨_, nc0⟩, ⟨_, nc1⟩, ⟨_, nc2⟩, ⟨_, nc3⟩, nf0, nf1, nf2, nf3⟩ := O11w.out
        refine wpAnyH_ready (rs := [8]) (by kernel_rfl) (by simp) ?_
        refine AllReadyH.cons (o := ?o84w11) ?h84w11 (fun K hK => ?_) AllReadyH.nil
        case h84w11 => simp only [List.getElem?_toArray]; rfl
        go_simp
        refine hK.out _ _ (hH.set4 _ (by omega) _ _ _ _) (fun hH' => ?_)
        clear hK K hH
        have hH := hH'
        clear hH'
        try simp only [List.setIfInBounds_toArray, List.set]
        have V11w : Hid (Var ((((x4w10.setCell ⟨b11w, 0, none⟩ (.int .u64 (e0 z35))).setCell ⟨b11w, 1, none⟩ (.int .u64 (e1 z35))).setCell ⟨b11w, 2, none⟩ (.int .u64 (e2 z35))).setCell ⟨b11w, 3, none⟩ (.int .u64 (e3 z35))) b11w z35) := var_set x4w10 b11w z35 O11w.out
        clear O11w nc0 nc1 nc2 nc3 nf0 nf1 nf2 nf3
        generalize (((x4w10.setCell ⟨b11w, 0, none⟩ (.int .u64 (e0 z35))).setCell ⟨b11w, 1, none⟩ (.int .u64 (e1 z35))).setCell ⟨b11w, 2, none⟩ (.int .u64 (e2 z35))).setCell ⟨b11w, 3, none⟩ (.int .u64 (e3 z35)) = x4w11 at *
        refine wpAnyH_done (by kernel_rfl) ?_ _
        refine NoPanic.normal ?_
        go_wp2_with fail
        go_meet
        case rel => exact ⟨_, _, rfl, hz35, (by unfold Hid; rw [Hz35.out, Hz33.out]; rfl), V11w, hg11, hH⟩
      case c74w8 =>
        go_simp
        have hL11 : W10.heap.size ≤ y4w7.heap.size := hH.size
        refine hK.out _ _ (hH.trans (bel1 _ _)) (fun hH' => ?_)
        clear hK K hH
        have hH := hH'
        clear hH'
        try simp only [List.setIfInBounds_toArray, List.set]
        have O11w : Hid (Own (y4w7.alloc (.cells #[.int .u64 0, .int .u64 0, .int .u64 0, .int .u64 0] 28)) y4w7.heap.size) := own_new y4w7 _ _ _ _ _
        generalize y4w7.alloc (.cells #[.int .u64 0, .int .u64 0, .int .u64 0, .int .u64 0] 28) = x4w12 at *
        generalize y4w7.heap.size = b11w at *
        have hg11 : W10.heap.size ≤ b11w := hL11
        refine wpAnyH_ready (rs := [6]) (by kernel_rfl) (by simp) ?_
        refine AllReadyH.cons (o := ?o64w13) ?h64w13 (fun K hK => ?_) AllReadyH.nil
        case h64w13 => simp only [List.getElem?_toArray]; rfl
        go_simp
        refine (mul_e z33 z21 hz33 hz21 _).mono ?_
        rintro e y4w13 ⟨z35, rfl, hz35, Hz35, hb4w13⟩
        refine hK.out _ _ (hH.trans hb4w13) (fun hH' => ?_)
        clear hK K hH
        have hH := hH'
        clear hH'
        try simp only [List.setIfInBounds_toArray, List.set]
        replace O11w : Hid (Own y4w13 b11w) := O11w.out.later hb4w13
        clear hb4w13
        obtain ⟨⟨_, nc0⟩, ⟨_, nc1⟩, ⟨_, nc2⟩, ⟨_, nc3⟩, nf0, nf1, nf2, nf3⟩ := O11w.out
        refine wpAnyH_ready (rs := [8]) (by kernel_rfl) (by simp) ?_
        refine AllReadyH.cons (o := ?o84w14) ?h84w14 (fun K hK => ?_) AllReadyH.nil
        case h84w14 => simp only [List.getElem?_toArray]; rfl
        go_simp
        refine hK.out _ _ (hH.set4 _ (by omega) _ _ _ _) (fun hH' => ?_)
        clear hK K hH
        have hH := hH'
        clear hH'
        try simp only [List.setIfInBounds_toArray, List.set]
        have V11w : Hid (Var ((((y4w13.setCell ⟨b11w, 0, none⟩ (.int .u64 (e0 z35))).setCell ⟨b11w, 1, none⟩ (.int .u64 (e1 z35))).setCell ⟨b11w, 2, none⟩ (.int .u64 (e2 z35))).setCell ⟨b11w, 3, none⟩ (.int .u64 (e3 z35))) b11w z35) := var_set y4w13 b11w z35 O11w.out
        clear O11w nc0 nc1 nc2 nc3 nf0 nf1 nf2 nf3
        generalize (((y4w13.setCell ⟨b11w, 0, none⟩ (.int .u64 (e0 z35))).setCell ⟨b11w, 1, none⟩ (.int .u64 (e1 z35))).setCell ⟨b11w, 2, none⟩ (.int .u64 (e2 z35))).setCell ⟨b11w, 3, none⟩ (.int .u64 (e3 z35)) = x4w14 at *
        refine wpAnyH_done (by kernel_rfl) ?_ _
        refine NoPanic.normal ?_
        go_wp2_with fail
        go_meet
        case rel => exact ⟨_, _, rfl, hz35, (by unfold Hid; rw [Hz35.out, Hz33.out]; rfl), V11w, hg11, hH⟩
    case c74w6 =>
      go_simp
      have hL11 : W10.heap.size ≤ y0.heap.size := hH.size
      refine hK.out _ _ (hH.trans (bel1 _ _)) (fun hH' => ?_)
      clear hK K hH
      have hH := hH'
      clear hH'
      try simp only [List.setIfInBounds_toArray, List.set]
      have O11w : Hid (Own (y0.alloc (.cells #[.int .u64 0, .int .u64 0, .int .u64 0, .int .u64 0] 28)) y0.heap.size) := own_new y0 _ _ _ _ _
      generalize y0.alloc (.cells #[.int .u64 0, .int .u64 0, .int .u64 0, .int .u64 0] 28) = x4w15 at *
      generalize y0.heap.size = b11w at *
      have hg11 : W10.heap.size ≤ b11w := hL11
      refine wpAnyH_ready (rs := [4]) (by kernel_rfl) (by simp) ?_
      refine AllReadyH.cons (o := ?o44w16) ?h44w16 (fun K hK => ?_) AllReadyH.nil
      case h44w16 => simp only [List.getElem?_toArray]; rfl
      go_simp
      refine (add_e x3 z3 hx3 hz3 _).mono ?_
      rintro e y4w16 ⟨z33, rfl, hz33, Hz33, hb4w16⟩
      refine hK.out _ _ (hH.trans hb4w16) (fun hH' => ?_)
      clear hK K hH
      have hH := hH'
      clear hH'
      try simp only [List.setIfInBounds_toArray, List.set]
      replace O11w : Hid (Own y4w16 b11w) := O11w.out.later hb4w16
      clear hb4w16
      refine wpAnyH_ready (rs := [6]) (by kernel_rfl) (by simp) ?_
      refine AllReadyH.cons (o := ?o64w17) ?h64w17 (fun K hK => ?_) AllReadyH.nil
      case h64w17 => simp only [List.getElem?_toArray]; rfl
      go_simp
      refine (mul_e z33 z21 hz33 hz21 _).mono ?_
      rintro e y4w17 ⟨z35, rfl, hz35, Hz35, hb4w17⟩
      refine hK.out _ _ (hH.trans hb4w17) (fun hH' => ?_)
      clear hK K hH
      have hH := hH'
      clear hH'
      try simp only [List.setIfInBounds_toArray, List.set]
      replace O11w : Hid (Own y4w17 b11w) := O11w.out.later hb4w17
      clear hb4w17
      obtain ⟨⟨_, nc0⟩, ⟨_, nc1⟩, ⟨_, nc2⟩, ⟨_, nc3⟩, nf0, nf1, nf2, nf3⟩ := O11w.out
      refine wpAnyH_ready (rs := [8]) (by kernel_rfl) (by simp) ?_
      refine AllReadyH.cons (o := ?o84w18) ?h84w18 (fun K hK => ?_) AllReadyH.nil
      case h84w18 => simp only [List.getElem?_toArray]; rfl
      go_simp
      refine hK.out _ _ (hH.set4 _ (by omega) _ _ _ _) (fun hH' => ?_)
      clear hK K hH
      have hH := hH'
      clear hH'
      try simp only [List.setIfInBounds_toArray, List.set]
      have V11w : Hid (Var ((((y4w17.setCell ⟨b11w, 0, none⟩ (.int .u64 (e0 z35))).setCell ⟨b11w, 1, none⟩ (.int .u64 (e1 z35))).setCell ⟨b11w, 2, none⟩ (.int .u64 (e2 z35))).setCell ⟨b11w, 3, none⟩ (.int .u64 (e3 z35))) b11w z35) := var_set y4w17 b11w z35 O11w.out
      clear O11w nc0 nc1 nc2 nc3 nf0 nf1 nf2 nf3
      generalize (((y4w17.setCell ⟨b11w, 0, none⟩ (.int .u64 (e0 z35))).setCell ⟨b11w, 1, none⟩ (.int .u64 (e1 z35))).setCell ⟨b11w, 2, none⟩ (.int .u64 (e2 z35))).setCell ⟨b11w, 3, none⟩ (.int .u64 (e3 z35)) = x4w18 at *
      refine wpAnyH_done (by kernel_rfl) ?_ _
      refine NoPanic.normal ?_
      go_wp2_with fail
      go_meet
      case rel => exact ⟨_, _, rfl, hz35, (by unfold Hid; rw [Hz35.out, Hz33.out]; rfl), V11w, hg11, hH⟩
  obtain ⟨b11, v11, rfl, hv11, Hv11, V11, hge11, hX⟩ := hcut
  generalize wc = W11 at *
  replace V5 : Hid (Var W11 q2 s) := V5.out.later hX.out
  replace V8 : Hid (Var W11 b8 z16) := V8.out.later hX.out
  replace V9 : Hid (Var W11 b9 z21) := V9.out.later hX.out
  replace V10 : Hid (Var W11 b10 v10) := V10.out.later hX.out
  replace F3 : Hid (Fr W11 w.heap.size x2 z2) := F3.out.later hX.out
  replace F4 : Hid (Fr W11 q1 x3 z3) := F4.out.later hX.out
  replace O6 : Hid (Fo W11 q3) := O6.out.later hX.out
  replace O7 : Hid (Fo W11 q4) := O7.out.later hX.out
  replace HB : Hid (Below w.heap.size w W11) := HB.out.trans (Below.mono hX.out HB.out.size)
  clear hX
  go_upto_region 5 with fail
  obtain ⟨V5c0, V5c1, V5c2, V5c3⟩ := V5.out
  have V5u0 : ∀ u, ExtL [q3, q4] W11 u → u.cell? ⟨q2, 0, none⟩ = some (.int .u64 (e0 s)) := fun u hu => hu.cell (by simp only [List.mem_cons, List.not_mem_nil, or_false]; omega) V5c0
  have V5u1 : ∀ u, ExtL [q3, q4] W11 u → u.cell? ⟨q2, 1, none⟩ = some (.int .u64 (e1 s)) := fun u hu => hu.cell (by simp only [List.mem_cons, List.not_mem_nil, or_false]; omega) V5c1
  have V5u2 : ∀ u, ExtL [q3, q4] W11 u → u.cell? ⟨q2, 2, none⟩ = some (.int .u64 (e2 s)) := fun u hu => hu.cell (by simp only [List.mem_cons, List.not_mem_nil, or_false]; omega) V5c2
  have V5u3 : ∀ u, ExtL [q3, q4] W11 u → u.cell? ⟨q2, 3, none⟩ = some (.int .u64 (e3 s)) := fun u hu => hu.cell (by simp only [List.mem_cons, List.not_mem_nil, or_false]; omega) V5c3
  clear V5c0 V5c1 V5c2 V5c3
  obtain ⟨V8c0, V8c1, V8c2, V8c3⟩ := V8.out
  have V8u0 : ∀ u, ExtL [q3, q4] W11 u → u.cell? ⟨b8, 0, none⟩ = some (.int .u64 (e0 z16)) := fun u hu => hu.cell (by simp only [List.mem_cons, List.not_mem_nil, or_false]; omega) V8c0
  have V8u1 : ∀ u, ExtL [q3, q4] W11 u → u.cell? ⟨b8, 1, none⟩ = some (.int .u64 (e1 z16)) := fun u hu => hu.cell (by simp only [List.mem_cons, List.not_mem_nil, or_false]; omega) V8c1
  have V8u2 : ∀ u, ExtL [q3, q4] W11 u → u.cell? ⟨b8, 2, none⟩ = some (.int .u64 (e2 z16)) := fun u hu => hu.cell (by simp only [List.mem_cons, List.not_mem_nil, or_false]; omega) V8c2
  have V8u3 : ∀ u, ExtL [q3, q4] W11 u → u.cell? ⟨b8, 3, none⟩ = some (.int .u64 (e3 z16)) := fun u hu => hu.cell (by simp only [List.mem_cons, List.not_mem_nil, or_false]; omega) V8c3
  clear V8c0 V8c1 V8c2 V8c3
  obtain ⟨V9c0, V9c1, V9c2, V9c3⟩ := V9.out
  have V9u0 : ∀ u, ExtL [q3, q4] W11 u → u.cell? ⟨b9, 0, none⟩ = some (.int .u64 (e0 z21)) := fun u hu => hu.cell (by simp only [List.mem_cons, List.not_mem_nil, or_false]; omega) V9c0
  have V9u1 : ∀ u, ExtL [q3, q4] W11 u → u.cell? ⟨b9, 1, none⟩ = some (.int .u64 (e1 z21)) := fun u hu => hu.cell (by simp only [List.mem_cons, List.not_mem_nil, or_false]; omega) V9c1
  have V9u2 : ∀ u, ExtL [q3, q4] W11 u → u.cell? ⟨b9, 2, none⟩ = some (.int .u64 (e2 z21)) := fun u hu => hu.cell (by simp only [List.mem_cons, List.not_mem_nil, or_false]; omega) V9c2
  have V9u3 : ∀ u, ExtL [q3, q4] W11 u → u.cell? ⟨b9, 3, none⟩ = some (.int .u64 (e3 z21)) := fun u hu => hu.cell (by simp only [List.mem_cons, List.not_mem_nil, or_false]; omega) V9c3
  clear V9c0 V9c1 V9c2 V9c3
  obtain ⟨V10c0, V10c1, V10c2, V10c3⟩ := V10.out
  have V10u0 : ∀ u, ExtL [q3, q4] W11 u → u.cell? ⟨b10, 0, none⟩ = some (.int .u64 (e0 v10)) := fun u hu => hu.cell (by simp only [List.mem_cons, List.not_mem_nil, or_false]; omega) V10c0
  have V10u1 : ∀ u, ExtL [q3, q4] W11 u → u.cell? ⟨b10, 1, none⟩ = some (.int .u64 (e1 v10)) := fun u hu => hu.cell (by simp only [List.mem_cons, List.not_mem_nil, or_false]; omega) V10c1
  have V10u2 : ∀ u, ExtL [q3, q4] W11 u → u.cell? ⟨b10, 2, none⟩ = some (.int .u64 (e2 v10)) := fun u hu => hu.cell (by simp only [List.mem_cons, List.not_mem_nil, or_false]; omega) V10c2
  have V10u3 : ∀ u, ExtL [q3, q4] W11 u → u.cell? ⟨b10, 3, none⟩ = some (.int .u64 (e3 v10)) := fun u hu => hu.cell (by simp only [List.mem_cons, List.not_mem_nil, or_false]; omega) V10c3
  clear V10c0 V10c1 V10c2 V10c3
  obtain ⟨V11c0, V11c1, V11c2, V11c3⟩ := V11.out
  have V11u0 : ∀ u, ExtL [q3, q4] W11 u → u.cell? ⟨b11, 0, none⟩ = some (.int .u64 (e0 v11)) := fun u hu => hu.cell (by simp only [List.mem_cons, List.not_mem_nil, or_false]; omega) V11c0
  have V11u1 : ∀ u, ExtL [q3, q4] W11 u → u.cell? ⟨b11, 1, none⟩ = some (.int .u64 (e1 v11)) := fun u hu => hu.cell (by simp only [List.mem_cons, List.not_mem_nil, or_false]; omega) V11c1
  have V11u2 : ∀ u, ExtL [q3, q4] W11 u → u.cell? ⟨b11, 2, none⟩ = some (.int .u64 (e2 v11)) := fun u hu => hu.cell (by simp only [List.mem_cons, List.not_mem_nil, or_false]; omega) V11c2
  have V11u3 : ∀ u, ExtL [q3, q4] W11 u → u.cell? ⟨b11, 3, none⟩ = some (.int .u64 (e3 v11)) := fun u hu => hu.cell (by simp only [List.mem_cons, List.not_mem_nil, or_false]; omega) V11c3
  clear V11c0 V11c1 V11c2 V11c3
  refine wp_region_noPanic ?_
  refine wp_region_held_drew (S := ExtL [q3, q4] W11) (by kernel_rfl) (ExtL.refl _ _).drew (fun hH => ?_)
  change wpAnyH _ _ _ _ _ _ #[false, false, false, false, false, false, false, false, false, false, false, false, false, false, false, false, false, false] _ _
  replace O6 : Hid (Fo W11.drew q3) := O6.out.later (Below.refl _ _).drew
  replace O7 : Hid (Fo W11.drew q4) := O7.out.later (Below.refl _ _).drew
  generalize W11.drew = y0 at *
  refine wpAnyH_take (i := 0) (oi := ?o0r5) (v := ?v0r5) ?h0r5 (by kernel_rfl) ?f0r5 ?r0r5 (fun _ _ _ h => h) (Or.inl ⟨?w0r5, ?y0r5⟩) (by assumption) ?t0r5
  case h0r5 => simp only [List.getElem?_toArray]; rfl
  case f0r5 => kernel_rfl
  case r0r5 => kernel_rfl
  case w0r5 => rfl
  case y0r5 => (intro u hu; (go_simp) <;> with_reducible rfl)
  try simp only [Act.put, List.setIfInBounds_toArray, List.set_cons_zero, List.set_cons_succ]
  refine wpAnyH_take (i := 2) (oi := ?o2r5) (v := ?v2r5) ?h2r5 (by kernel_rfl) ?f2r5 ?r2r5 (fun _ _ _ h => h) (Or.inl ⟨?w2r5, ?y2r5⟩) (by assumption) ?t2r5
  case h2r5 => simp only [List.getElem?_toArray]; rfl
  case f2r5 => kernel_rfl
  case r2r5 => kernel_rfl
  case w2r5 => rfl
  case y2r5 => (intro u hu; (go_simp) <;> with_reducible rfl)
  try simp only [Act.put, List.setIfInBounds_toArray, List.set_cons_zero, List.set_cons_succ]
  refine wpAnyH_take (i := 5) (oi := ?o5r5) (v := ?v5r5) ?h5r5 (by kernel_rfl) ?f5r5 ?r5r5 (fun _ _ _ h => h) (Or.inl ⟨?w5r5, ?y5r5⟩) (by assumption) ?t5r5
  case h5r5 => simp only [List.getElem?_toArray]; rfl
  case f5r5 => kernel_rfl
  case r5r5 => kernel_rfl
  case w5r5 => rfl
  case y5r5 => (intro u hu; (go_simp) <;> with_reducible rfl)
  try simp only [Act.put, List.setIfInBounds_toArray, List.set_cons_zero, List.set_cons_succ]
  refine wpAnyH_take (i := 6) (oi := ?o6r5) (v := ?v6r5) ?h6r5 (by kernel_rfl) ?f6r5 ?r6r5 (fun _ _ _ h => h) (Or.inl ⟨?w6r5, ?y6r5⟩) (by assumption) ?t6r5
  case h6r5 => simp only [List.getElem?_toArray]; rfl
  case f6r5 => kernel_rfl
  case r6r5 => kernel_rfl
  case w6r5 => rfl
  case y6r5 => (intro u hu; (go_simp) <;> with_reducible rfl)
  try simp only [Act.put, List.setIfInBounds_toArray, List.set_cons_zero, List.set_cons_succ]
  refine wpAnyH_take (i := 9) (oi := ?o9r5) (v := ?v9r5) ?h9r5 (by kernel_rfl) ?f9r5 ?r9r5 (fun _ _ _ h => h) (Or.inl ⟨?w9r5, ?y9r5⟩) (by assumption) ?t9r5
  case h9r5 => simp only [List.getElem?_toArray]; rfl
  case f9r5 => kernel_rfl
  case r9r5 => kernel_rfl
  case w9r5 => rfl
  case y9r5 => (intro u hu; (go_simp) <;> with_reducible rfl)
  try simp only [Act.put, List.setIfInBounds_toArray, List.set_cons_zero, List.set_cons_succ]
  refine wpAnyH_take (i := 10) (oi := ?o10r5) (v := ?v10r5) ?h10r5 (by kernel_rfl) ?f10r5 ?r10r5 (fun _ _ _ h => h) (Or.inl ⟨?w10r5, ?y10r5⟩) (by assumption) ?t10r5
  case h10r5 => simp only [List.getElem?_toArray]; rfl
  case f10r5 => kernel_rfl
  case r10r5 => kernel_rfl
  case w10r5 => rfl
  case y10r5 => (intro u hu; (go_simp) <;> with_reducible rfl)
  try simp only [Act.put, List.setIfInBounds_toArray, List.set_cons_zero, List.set_cons_succ]
  refine wpAnyH_take (i := 11) (oi := ?o11r5) (v := ?v11r5) ?h11r5 (by kernel_rfl) ?f11r5 ?r11r5 (fun _ _ _ h => h) (Or.inl ⟨?w11r5, ?y11r5⟩) (by assumption) ?t11r5
  case h11r5 => simp only [List.getElem?_toArray]; rfl
  case f11r5 => kernel_rfl
  case r11r5 => kernel_rfl
  case w11r5 => rfl
  case y11r5 => (intro u hu; (go_simp) <;> with_reducible rfl)
  try simp only [Act.put, List.setIfInBounds_toArray, List.set_cons_zero, List.set_cons_succ]
  refine wpAnyH_ready (rs := [1]) (by kernel_rfl) (by simp) ?_
  refine AllReadyH.cons (o := ?o1r5) ?h1r5 (fun K hK => ?_) AllReadyH.nil
  case h1r5 => simp only [List.getElem?_toArray]; rfl
  go_simp
  refine (square_e z16 hz16 _).mono ?_
  rintro e c5_1 ⟨z37, rfl, hz37, Hz37, hb5_1⟩
  refine hK.out _ _ (hH.trans hb5_1) (fun hH' => ?_)
  clear hK K hH
  have hH := hH'
  clear hH'
  try simp only [List.setIfInBounds_toArray, List.set]
  replace O6 : Hid (Fo c5_1 q3) := O6.out.later hb5_1
  replace O7 : Hid (Fo c5_1 q4) := O7.out.later hb5_1
  clear hb5_1
  refine wpAnyH_ready (rs := [3]) (by kernel_rfl) (by simp) ?_
  refine AllReadyH.cons (o := ?o3r5) ?h3r5 (fun K hK => ?_) AllReadyH.nil
  case h3r5 => simp only [List.getElem?_toArray]; rfl
  go_simp
  refine (square_e z21 hz21 _).mono ?_
  rintro e c5_3 ⟨z39, rfl, hz39, Hz39, hb5_3⟩
  refine hK.out _ _ (hH.trans hb5_3) (fun hH' => ?_)
  clear hK K hH
  have hH := hH'
  clear hH'
  try simp only [List.setIfInBounds_toArray, List.set]
  replace O6 : Hid (Fo c5_3 q3) := O6.out.later hb5_3
  replace O7 : Hid (Fo c5_3 q4) := O7.out.later hb5_3
  clear hb5_3
  refine wpAnyH_ready (rs := [4]) (by kernel_rfl) (by simp) ?_
  refine AllReadyH.cons (o := ?o4r5) ?h4r5 (fun K hK => ?_) AllReadyH.nil
  case h4r5 => simp only [List.getElem?_toArray]; rfl
  go_simp
  refine (doubled_e z37 z39 hz37 hz39 _).mono ?_
  rintro e c5_4 ⟨z40x, z40z, rfl, hz40x, hz40z, Hz40x, Hz40z, hb5_4⟩
  refine hK.out _ _ (hH.trans hb5_4) (fun hH' => ?_)
  clear hK K hH
  have hH := hH'
  clear hH'
  try simp only [List.setIfInBounds_toArray, List.set]
  replace O6 : Hid (Fo c5_4 q3) := O6.out.later hb5_4
  replace O7 : Hid (Fo c5_4 q4) := O7.out.later hb5_4
  clear hb5_4
  refine wpAnyH_ready (rs := [7]) (by kernel_rfl) (by simp) ?_
  refine AllReadyH.cons (o := ?o7r5) ?h7r5 (fun K hK => ?_) AllReadyH.nil
  case h7r5 => simp only [List.getElem?_toArray]; rfl
  go_simp
  refine (add_e v10 v11 hv10 hv11 _).mono ?_
  rintro e c5_7 ⟨z43, rfl, hz43, Hz43, hb5_7⟩
  refine hK.out _ _ (hH.trans hb5_7) (fun hH' => ?_)
  clear hK K hH
  have hH := hH'
  clear hH'
  try simp only [List.setIfInBounds_toArray, List.set]
  replace O6 : Hid (Fo c5_7 q3) := O6.out.later hb5_7
  replace O7 : Hid (Fo c5_7 q4) := O7.out.later hb5_7
  clear hb5_7
  refine wpAnyH_ready (rs := [8]) (by kernel_rfl) (by simp) ?_
  refine AllReadyH.cons (o := ?o8r5) ?h8r5 (fun K hK => ?_) AllReadyH.nil
  case h8r5 => simp only [List.getElem?_toArray]; rfl
  go_simp
  refine (square_e z43 hz43 _).mono ?_
  rintro e c5_8 ⟨z44, rfl, hz44, Hz44, hb5_8⟩
  refine hK.out _ _ (hH.trans hb5_8) (fun hH' => ?_)
  clear hK K hH
  have hH := hH'
  clear hH'
  try simp only [List.setIfInBounds_toArray, List.set]
  replace O6 : Hid (Fo c5_8 q3) := O6.out.later hb5_8
  replace O7 : Hid (Fo c5_8 q4) := O7.out.later hb5_8
  clear hb5_8
  refine wpAnyH_ready (rs := [12]) (by kernel_rfl) (by simp) ?_
  refine AllReadyH.cons (o := ?o12r5) ?h12r5 (fun K hK => ?_) AllReadyH.nil
  case h12r5 => simp only [List.getElem?_toArray]; rfl
  go_simp
  refine (sub_e v10 v11 hv10 hv11 _).mono ?_
  rintro e c5_12 ⟨z48, rfl, hz48, Hz48, hb5_12⟩
  refine hK.out _ _ (hH.trans hb5_12) (fun hH' => ?_)
  clear hK K hH
  have hH := hH'
  clear hH'
  try simp only [List.setIfInBounds_toArray, List.set]
  replace O6 : Hid (Fo c5_12 q3) := O6.out.later hb5_12
  replace O7 : Hid (Fo c5_12 q4) := O7.out.later hb5_12
  clear hb5_12
  refine wpAnyH_ready (rs := [13]) (by kernel_rfl) (by simp) ?_
  refine AllReadyH.cons (o := ?o13r5) ?h13r5 (fun K hK => ?_) AllReadyH.nil
  case h13r5 => simp only [List.getElem?_toArray]; rfl
  go_simp
  refine (square_e z48 hz48 _).mono ?_
  rintro e c5_13 ⟨z49, rfl, hz49, Hz49, hb5_13⟩
  refine hK.out _ _ (hH.trans hb5_13) (fun hH' => ?_)
  clear hK K hH
  have hH := hH'
  clear hH'
  try simp only [List.setIfInBounds_toArray, List.set]
  replace O6 : Hid (Fo c5_13 q3) := O6.out.later hb5_13
  replace O7 : Hid (Fo c5_13 q4) := O7.out.later hb5_13
  clear hb5_13
  refine wpAnyH_ready (rs := [14]) (by kernel_rfl) (by simp) ?_
  refine AllReadyH.cons (o := ?o14r5) ?h14r5 (fun K hK => ?_) AllReadyH.nil
  case h14r5 => simp only [List.getElem?_toArray]; rfl
  go_simp
  refine (mul_e s z49 hs hz49 _).mono ?_
  rintro e c5_14 ⟨z50, rfl, hz50, Hz50, hb5_14⟩
  refine hK.out _ _ (hH.trans hb5_14) (fun hH' => ?_)
  clear hK K hH
  have hH := hH'
  clear hH'
  try simp only [List.setIfInBounds_toArray, List.set]
  replace O6 : Hid (Fo c5_14 q3) := O6.out.later hb5_14
  replace O7 : Hid (Fo c5_14 q4) := O7.out.later hb5_14
  clear hb5_14
  refine wpAnyH_take (i := 15) (oi := ?o15r5) (v := ?v15r5) ?h15r5 (by kernel_rfl) ?f15r5 ?r15r5 (fun _ _ _ h => h) (Or.inl ⟨?w15r5, ?y15r5⟩) (by assumption) ?t15r5
  case h15r5 => simp only [List.getElem?_toArray]; rfl
  case f15r5 => kernel_rfl
  case r15r5 => kernel_rfl
  case w15r5 => rfl
  case y15r5 => (intro u hu; (go_simp) <;> with_reducible rfl)
  try simp only [Act.put, List.setIfInBounds_toArray, List.set_cons_zero, List.set_cons_succ]
  obtain ⟨⟨_, nc0⟩, ⟨_, nc1⟩, ⟨_, nc2⟩, ⟨_, nc3⟩, ⟨_, nc4⟩, ⟨_, nc5⟩, ⟨_, nc6⟩, ⟨_, nc7⟩, nf0, nf1, nf2, nf3, nf4, nf5, nf6, nf7⟩ := O6.out
  refine wpAnyH_ready (rs := [16]) (by kernel_rfl) (by simp) ?_
  refine AllReadyH.cons (o := ?o16r5) ?h16r5 (fun K hK => ?_) AllReadyH.nil
  case h16r5 => simp only [List.getElem?_toArray]; rfl
  go_simp
  refine hK.out _ _ (hH.set8 (by simp) _ _ _ _ _ _ _ _) (fun hH' => ?_)
  clear hK K hH
  have hH := hH'
  clear hH'
  try simp only [List.setIfInBounds_toArray, List.set]
  have R6 : Hid (Fr ((((((((c5_14.setCell ⟨q3, 0, none⟩ (.int .u64 (e0 z40x))).setCell ⟨q3, 1, none⟩ (.int .u64 (e1 z40x))).setCell ⟨q3, 2, none⟩ (.int .u64 (e2 z40x))).setCell ⟨q3, 3, none⟩ (.int .u64 (e3 z40x))).setCell ⟨q3, 4, none⟩ (.int .u64 (e0 z40z))).setCell ⟨q3, 5, none⟩ (.int .u64 (e1 z40z))).setCell ⟨q3, 6, none⟩ (.int .u64 (e2 z40z))).setCell ⟨q3, 7, none⟩ (.int .u64 (e3 z40z))) q3 z40x z40z) := fr_set c5_14 q3 z40x z40z O6.out
  clear O6
  replace O7 : Hid (Fo ((((((((c5_14.setCell ⟨q3, 0, none⟩ (.int .u64 (e0 z40x))).setCell ⟨q3, 1, none⟩ (.int .u64 (e1 z40x))).setCell ⟨q3, 2, none⟩ (.int .u64 (e2 z40x))).setCell ⟨q3, 3, none⟩ (.int .u64 (e3 z40x))).setCell ⟨q3, 4, none⟩ (.int .u64 (e0 z40z))).setCell ⟨q3, 5, none⟩ (.int .u64 (e1 z40z))).setCell ⟨q3, 6, none⟩ (.int .u64 (e2 z40z))).setCell ⟨q3, 7, none⟩ (.int .u64 (e3 z40z))) q4) := fo_o8 O7.out (by omega) _ _ _ _ _ _ _ _
  clear nc0 nf0 nc1 nf1 nc2 nf2 nc3 nf3 nc4 nf4 nc5 nf5 nc6 nf6 nc7 nf7
  generalize (((((((c5_14.setCell ⟨q3, 0, none⟩ (.int .u64 (e0 z40x))).setCell ⟨q3, 1, none⟩ (.int .u64 (e1 z40x))).setCell ⟨q3, 2, none⟩ (.int .u64 (e2 z40x))).setCell ⟨q3, 3, none⟩ (.int .u64 (e3 z40x))).setCell ⟨q3, 4, none⟩ (.int .u64 (e0 z40z))).setCell ⟨q3, 5, none⟩ (.int .u64 (e1 z40z))).setCell ⟨q3, 6, none⟩ (.int .u64 (e2 z40z))).setCell ⟨q3, 7, none⟩ (.int .u64 (e3 z40z)) = x5_16 at *
  obtain ⟨⟨_, nc0⟩, ⟨_, nc1⟩, ⟨_, nc2⟩, ⟨_, nc3⟩, ⟨_, nc4⟩, ⟨_, nc5⟩, ⟨_, nc6⟩, ⟨_, nc7⟩, nf0, nf1, nf2, nf3, nf4, nf5, nf6, nf7⟩ := O7.out
  refine wpAnyH_ready (rs := [17]) (by kernel_rfl) (by simp) ?_
  refine AllReadyH.cons (o := ?o17r5) ?h17r5 (fun K hK => ?_) AllReadyH.nil
  case h17r5 => simp only [List.getElem?_toArray]; rfl
  go_simp
  refine hK.out _ _ (hH.set8 (by simp) _ _ _ _ _ _ _ _) (fun hH' => ?_)
  clear hK K hH
  have hH := hH'
  clear hH'
  try simp only [List.setIfInBounds_toArray, List.set]
  have R7 : Hid (Fr ((((((((x5_16.setCell ⟨q4, 0, none⟩ (.int .u64 (e0 z44))).setCell ⟨q4, 1, none⟩ (.int .u64 (e1 z44))).setCell ⟨q4, 2, none⟩ (.int .u64 (e2 z44))).setCell ⟨q4, 3, none⟩ (.int .u64 (e3 z44))).setCell ⟨q4, 4, none⟩ (.int .u64 (e0 z50))).setCell ⟨q4, 5, none⟩ (.int .u64 (e1 z50))).setCell ⟨q4, 6, none⟩ (.int .u64 (e2 z50))).setCell ⟨q4, 7, none⟩ (.int .u64 (e3 z50))) q4 z44 z50) := fr_set x5_16 q4 z44 z50 O7.out
  clear O7
  replace R6 : Hid (Fr ((((((((x5_16.setCell ⟨q4, 0, none⟩ (.int .u64 (e0 z44))).setCell ⟨q4, 1, none⟩ (.int .u64 (e1 z44))).setCell ⟨q4, 2, none⟩ (.int .u64 (e2 z44))).setCell ⟨q4, 3, none⟩ (.int .u64 (e3 z44))).setCell ⟨q4, 4, none⟩ (.int .u64 (e0 z50))).setCell ⟨q4, 5, none⟩ (.int .u64 (e1 z50))).setCell ⟨q4, 6, none⟩ (.int .u64 (e2 z50))).setCell ⟨q4, 7, none⟩ (.int .u64 (e3 z50))) q3 z40x z40z) := fr_o8 R6.out (by omega) _ _ _ _ _ _ _ _
  clear nc0 nf0 nc1 nf1 nc2 nf2 nc3 nf3 nc4 nf4 nc5 nf5 nc6 nf6 nc7 nf7
  generalize (((((((x5_16.setCell ⟨q4, 0, none⟩ (.int .u64 (e0 z44))).setCell ⟨q4, 1, none⟩ (.int .u64 (e1 z44))).setCell ⟨q4, 2, none⟩ (.int .u64 (e2 z44))).setCell ⟨q4, 3, none⟩ (.int .u64 (e3 z44))).setCell ⟨q4, 4, none⟩ (.int .u64 (e0 z50))).setCell ⟨q4, 5, none⟩ (.int .u64 (e1 z50))).setCell ⟨q4, 6, none⟩ (.int .u64 (e2 z50))).setCell ⟨q4, 7, none⟩ (.int .u64 (e3 z50)) = x5_17 at *
  refine wpAnyH_done (by kernel_rfl) ?_ _
  refine NoPanic.normal ?_
  obtain ⟨p6_0, p6_1, p6_2, p6_3, p6_4, p6_5, p6_6, p6_7⟩ := R6.out
  obtain ⟨p7_0, p7_1, p7_2, p7_3, p7_4, p7_5, p7_6, p7_7⟩ := R7.out
  go_wp2
  refine bodyPost_ret (v := .tuple #[(.agg #[.int .u64 (e0 z40x), .int .u64 (e1 z40x), .int .u64 (e2 z40x), .int .u64 (e3 z40x), .int .u64 (e0 z40z), .int .u64 (e1 z40z), .int .u64 (e2 z40z), .int .u64 (e3 z40z)]), (.agg #[.int .u64 (e0 z44), .int .u64 (e1 z44), .int .u64 (e2 z44), .int .u64 (e3 z44), .int .u64 (e0 z50), .int .u64 (e1 z50), .int .u64 (e2 z50), .int .u64 (e3 z50)])]) (by simp [results, Tryd.results39, go_sem, p6_0, p6_1, p6_2, p6_3, p6_4, p6_5, p6_6, p6_7, p7_0, p7_1, p7_2, p7_3, p7_4, p7_5, p7_6, p7_7]) rfl ⟨_, _, _, _, rfl, hz40x, hz40z, hz44, hz50, ?_, (hH.below HB.out (fun b hb => by simp only [List.mem_cons, List.not_mem_nil, or_false] at hb; omega))⟩
  unfold Hid dbX dbZ adX adZ sq
  rw [Hz40x.out, Hz40z.out, Hz37.out, Hz39.out, Hz44.out, Hz43.out, Hz50.out, Hz49.out, Hz48.out, Hv10.out, Hv11.out, Hz16.out, Hz21.out]
  exact ⟨rfl, rfl, rfl, rfl⟩
end Go.Proofs.YtggjifpcoidipaaDoor
