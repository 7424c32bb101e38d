/-
  Several texts of one's own, laid together. No statement of the seat is proved here.
-/
import Derived.Test.YtlnbjehimabaiaaGreatDoorPk24
import Derived.Test.YtlnbjehimabaiaaGreatDoorPk1
/-
 Plain arithmetic modulo p, for the laws of the field. No Go text in it; no statement of the seat is proved here.
-/
namespace Go.Proofs.YtlnbjehimabaiaaGreatDoor.Fc
open Go.RowKit
set_option maxRecDepth 8000

theorem em_mul_l (a b : Int) : a % 57896044618658097711785492504343953926634992332820282019728792003956564819949 * b % 57896044618658097711785492504343953926634992332820282019728792003956564819949 = a * b % 57896044618658097711785492504343953926634992332820282019728792003956564819949 := by rw [Int.mul_emod, Int.emod_emod, ← Int.mul_emod]
theorem em_mul_r (a b : Int) : a * (b % 57896044618658097711785492504343953926634992332820282019728792003956564819949) % 57896044618658097711785492504343953926634992332820282019728792003956564819949 = a * b % 57896044618658097711785492504343953926634992332820282019728792003956564819949 := by rw [Int.mul_emod, Int.emod_emod, ← Int.mul_emod]
theorem em_add_l (a b : Int) : (a % 57896044618658097711785492504343953926634992332820282019728792003956564819949 + b) % 57896044618658097711785492504343953926634992332820282019728792003956564819949 = (a + b) % 57896044618658097711785492504343953926634992332820282019728792003956564819949 := by rw [Int.add_emod, Int.emod_emod, ← Int.add_emod]
theorem em_add_r (a b : Int) : (a + b % 57896044618658097711785492504343953926634992332820282019728792003956564819949) % 57896044618658097711785492504343953926634992332820282019728792003956564819949 = (a + b) % 57896044618658097711785492504343953926634992332820282019728792003956564819949 := by rw [Int.add_emod, Int.emod_emod, ← Int.add_emod]
theorem em_sub_l (a b : Int) : (a % 57896044618658097711785492504343953926634992332820282019728792003956564819949 - b) % 57896044618658097711785492504343953926634992332820282019728792003956564819949 = (a - b) % 57896044618658097711785492504343953926634992332820282019728792003956564819949 := by rw [Int.sub_emod, Int.emod_emod, ← Int.sub_emod]
theorem em_sub_r (a b : Int) : (a - b % 57896044618658097711785492504343953926634992332820282019728792003956564819949) % 57896044618658097711785492504343953926634992332820282019728792003956564819949 = (a - b) % 57896044618658097711785492504343953926634992332820282019728792003956564819949 := by rw [Int.sub_emod, Int.emod_emod, ← Int.sub_emod]
theorem El.em {x : Int} (h : El x) : x % 57896044618658097711785492504343953926634992332820282019728792003956564819949 = x := Int.emod_eq_of_lt h.h0 h.h1
theorem same_t {x y : Int} (h : x = y) : same x y = true := by unfold same; rw [decide_eq_true_iff]; exact h
theorem same_f {x y : Int} (h : x ≠ y) : same x y = false := by unfold same; rw [decide_eq_false_iff_not]; exact h
theorem pw_em (x : Int) : ∀ n, (x % 57896044618658097711785492504343953926634992332820282019728792003956564819949) ^ n % 57896044618658097711785492504343953926634992332820282019728792003956564819949 = x ^ n % 57896044618658097711785492504343953926634992332820282019728792003956564819949
 | 0 => by rw [Int.pow_zero, Int.pow_zero]
 | n + 1 => by rw [Int.pow_succ, Int.pow_succ, Int.mul_emod, pw_em x n, Int.emod_emod, ← Int.mul_emod]
theorem pw_mul_base (x y : Int) (n : Nat) : pw (x * y % 57896044618658097711785492504343953926634992332820282019728792003956564819949) n = pw x n * pw y n % 57896044618658097711785492504343953926634992332820282019728792003956564819949 := by
 unfold pw
 rw [pw_em, Int.mul_pow, Int.mul_emod]
theorem pw_zero (n : Nat) (h : 0 < n) : pw 0 n = 0 := by
 unfold pw
 rw [Int.zero_pow (by omega)]
 rfl
/-- The inverse of an inverse. -/
theorem inv_inv (x : Int) (hx : El x) : pw (pw x 57896044618658097711785492504343953926634992332820282019728792003956564819947) 57896044618658097711785492504343953926634992332820282019728792003956564819947 = x := by
 by_cases h : x = 0
 ·rw [h, pw_zero _ (by decide), pw_zero _ (by decide)]
 ·have h1 := inv_mul x hx h
  generalize hy : pw x 57896044618658097711785492504343953926634992332820282019728792003956564819947 = y at *
  have ey : El y := by rw [← hy]; exact pw_el _ _
  have hy0 : y ≠ 0 := fun e => by
   rw [e, Int.mul_zero] at h1
   exact absurd h1 (by decide)
  have h2 := inv_mul y ey hy0
  generalize hz : pw y 57896044618658097711785492504343953926634992332820282019728792003956564819947 = z at *
  have ez : El z := by rw [← hz]; exact pw_el _ _
  have a1 : x * y * z % 57896044618658097711785492504343953926634992332820282019728792003956564819949 = z := by rw [← em_mul_l, h1, Int.one_mul, ez.em]
  have a2 : x * y * z % 57896044618658097711785492504343953926634992332820282019728792003956564819949 = x := by rw [Int.mul_assoc, ← em_mul_r, h2, Int.mul_one, hx.em]
  rw [← a1, a2]
/-- Nothing that was there has turned. -/
def Ext (w w' : World) : Prop := Below w.heap.size w w'
theorem Ext.refl (w : World) : Ext w w := Below.refl _ _
theorem Ext.trans {a b c : World} (h : Ext a b) (k : Below b.heap.size b c) : Ext a c := Below.trans h (k.mono h.size)
theorem Ext.drew {a b : World} (h : Ext a b) : Ext a b.drew := Below.drew h
theorem Ext.cell {a u : World} (h : Ext a u) {b o : Nat} {v : Value} (hc : a.cell? ⟨b, o, none⟩ = some v) : u.cell? ⟨b, o, none⟩ = some v := cell_later h hc
theorem ret_bool {x y : Bool} (h : x = y) : Ending.returned (.bool x) = .returned (.bool y) := by rw [h]
theorem arr_box (u : World) (l : List Int) (h : By l) : Arr (u.alloc (.cells (List.map (Value.int .u8) l).toArray 30)) u.heap.size (List.map (Value.int .u8) l) :=
 ⟨fun j v hv => by rw [Nat.zero_add, cell_of_row _ _ _ _ _ _ (heap_alloc_new u _)]; simpa using hv, there_new u 32 _ (by rw [List.size_toArray, List.length_map, h.len]) _⟩
theorem own_other {u : World} {b c : Nat} (h : Own u b) (hne : b ≠ c) (v0 v1 v2 v3 : Value) : Own ((((u.setCell ⟨c, 0, none⟩ v0).setCell ⟨c, 1, none⟩ v1).setCell ⟨c, 2, none⟩ v2).setCell ⟨c, 3, none⟩ v3) b := by
 obtain ⟨⟨x0, h0⟩, ⟨x1, h1⟩, ⟨x2, h2⟩, ⟨x3, h3⟩, f0, f1, f2, f3⟩ := h
 have hb : c ≠ b := fun e => hne e.symm
 refine ⟨⟨x0, ?_⟩, ⟨x1, ?_⟩, ⟨x2, ?_⟩, ⟨x3, ?_⟩, ?_, ?_, ?_, ?_⟩
 ·simp [go_sem, h0]
 ·simp [go_sem, h1]
 ·simp [go_sem, h2]
 ·simp [go_sem, h3]
 ·simp [go_sem, f0]
 ·simp [go_sem, f1]
 ·simp [go_sem, f2]
 ·simp [go_sem, f3]
theorem own_set {u : World} {b : Nat} (h : Own u b) (v0 v1 v2 v3 : Value) : Own ((((u.setCell ⟨b, 0, none⟩ v0).setCell ⟨b, 1, none⟩ v1).setCell ⟨b, 2, none⟩ v2).setCell ⟨b, 3, none⟩ v3) b := by
 obtain ⟨⟨x0, h0⟩, ⟨x1, h1⟩, ⟨x2, h2⟩, ⟨x3, h3⟩, f0, f1, f2, f3⟩ := h
 refine ⟨⟨v0, ?_⟩, ⟨v1, ?_⟩, ⟨v2, ?_⟩, ⟨v3, ?_⟩, ?_, ?_, ?_, ?_⟩
 ·simp [go_sem, h0]
 ·simp [go_sem, h1]
 ·simp [go_sem, h2]
 ·simp [go_sem, h3]
 ·simp [go_sem, f0]
 ·simp [go_sem, f1]
 ·simp [go_sem, f2]
 ·simp [go_sem, f3]
theorem arr_other {u : World} {b c : Nat} {cs : List Value} (h : Arr u b cs) (hne : b ≠ c) (v0 v1 v2 v3 : Value) : Arr ((((u.setCell ⟨c, 0, none⟩ v0).setCell ⟨c, 1, none⟩ v1).setCell ⟨c, 2, none⟩ v2).setCell ⟨c, 3, none⟩ v3) b cs :=
 ⟨range_else (range_else (range_else (range_else h.rng hne _) hne _) hne _) hne _, there_set (there_set (there_set (there_set h.all _ _ _) _ _ _) _ _ _) _ _ _⟩
theorem var_other {u : World} {b c : Nat} {v : Int} (h : Var u b v) (hne : b ≠ c) (v0 v1 v2 v3 : Value) : Var ((((u.setCell ⟨c, 0, none⟩ v0).setCell ⟨c, 1, none⟩ v1).setCell ⟨c, 2, none⟩ v2).setCell ⟨c, 3, none⟩ v3) b v := by
 obtain ⟨h0, h1, h2, h3⟩ := h
 have hb : c ≠ b := fun e => hne e.symm
 refine ⟨?_, ?_, ?_, ?_⟩
 ·simp [go_sem, h0]
 ·simp [go_sem, h1]
 ·simp [go_sem, h2]
 ·simp [go_sem, h3]
theorem Ext.set4 {a u : World} (h : Ext a u) (n : Nat) (hn : a.heap.size ≤ n) (v0 v1 v2 v3 : Value) : Ext a ((((u.setCell ⟨n, 0, none⟩ v0).setCell ⟨n, 1, none⟩ v1).setCell ⟨n, 2, none⟩ v2).setCell ⟨n, 3, none⟩ v3) := below_set4 h n hn _ _ _ _
theorem Var.lt {u : World} {b : Nat} {v : Int} (h : Var u b v) : b < u.heap.size := World.block_lt_of_cell? u _ h.c0
end Go.Proofs.YtlnbjehimabaiaaGreatDoor.Fc
/-
 What field's Swap does, for whatever numbers below p and whatever bit. No statement of the seat is proved here.
-/
namespace Go.Proofs.YtlnbjehimabaiaaGreatDoor.Fc
open Go.RowKit
set_option maxRecDepth 8000

structure Lm (u : World) (b : Nat) (t0 t1 t2 t3 : Int) : Prop where
 c0 : u.cell? ⟨b, 0, none⟩ = some (.int .u64 t0)
 c1 : u.cell? ⟨b, 1, none⟩ = some (.int .u64 t1)
 c2 : u.cell? ⟨b, 2, none⟩ = some (.int .u64 t2)
 c3 : u.cell? ⟨b, 3, none⟩ = some (.int .u64 t3)
theorem Lm.later {u u' : World} {b : Nat} {t0 t1 t2 t3 : Int} (h : Lm u b t0 t1 t2 t3) (hb : Below u.heap.size u u') : Lm u' b t0 t1 t2 t3 := ⟨cell_later hb h.c0, cell_later hb h.c1, cell_later hb h.c2, cell_later hb h.c3⟩
theorem Lm.other {u : World} {b c : Nat} {t0 t1 t2 t3 : Int} (h : Lm u b t0 t1 t2 t3) (hne : b ≠ c) (v0 v1 v2 v3 : Value) : Lm ((((u.setCell ⟨c, 0, none⟩ v0).setCell ⟨c, 1, none⟩ v1).setCell ⟨c, 2, none⟩ v2).setCell ⟨c, 3, none⟩ v3) b t0 t1 t2 t3 := by
 obtain ⟨h0, h1, h2, h3⟩ := h
 have hb : c ≠ b := fun e => hne e.symm
 refine ⟨?_, ?_, ?_, ?_⟩
 ·simp [go_sem, h0]
 ·simp [go_sem, h1]
 ·simp [go_sem, h2]
 ·simp [go_sem, h3]
/-- What holds all along the last statement. -/
structure SwS (w : World) (b0 b1 b4 : Nat) (x y t0 t1 t2 t3 : Int) (u : World) : Prop where
 bel : Below w.heap.size w u
 vx : Var u b0 x
 vy : Var u b1 y
 lm : Lm u b4 t0 t1 t2 t3
theorem SwS.later {w : World} {b0 b1 b4 : Nat} {x y t0 t1 t2 t3 : Int} {u u' : World} (h : SwS w b0 b1 b4 x y t0 t1 t2 t3 u) (hb : Below u.heap.size u u') : SwS w b0 b1 b4 x y t0 t1 t2 t3 u' :=
 ⟨h.bel.trans (hb.mono h.bel.size), h.vx.later hb, h.vy.later hb, h.lm.later hb⟩
theorem SwS.set4 {w : World} {b0 b1 b4 : Nat} {x y t0 t1 t2 t3 : Int} {u : World} (h : SwS w b0 b1 b4 x y t0 t1 t2 t3 u) (n : Nat) (hn : w.heap.size ≤ n) (h0 : b0 ≠ n) (h1 : b1 ≠ n) (h4 : b4 ≠ n) (v0 v1 v2 v3 : Value) :
  SwS w b0 b1 b4 x y t0 t1 t2 t3 ((((u.setCell ⟨n, 0, none⟩ v0).setCell ⟨n, 1, none⟩ v1).setCell ⟨n, 2, none⟩ v2).setCell ⟨n, 3, none⟩ v3) :=
 ⟨below_set4 h.bel n hn _ _ _ _, var_other h.vx h0 _ _ _ _, var_other h.vy h1 _ _ _ _, h.lm.other h4 _ _ _ _⟩

set_option maxHeartbeats 4000000 in
theorem swap_g (x y n c q t0 t1 t2 t3 x' y' : Int) (hc : bits .and .u64 n 1 = c) (hq : IntKind.u64.wrap (-c) = q)
  (a0 : bits .and .u64 q (bits .xor .u64 (e0 x) (e0 y)) = t0) (a1 : bits .and .u64 q (bits .xor .u64 (e1 x) (e1 y)) = t1) (a2 : bits .and .u64 q (bits .xor .u64 (e2 x) (e2 y)) = t2) (a3 : bits .and .u64 q (bits .xor .u64 (e3 x) (e3 y)) = t3)
  (HX : Hid (xo (e0 x) t0 = e0 x' ∧ xo (e1 x) t1 = e1 x' ∧ xo (e2 x) t2 = e2 x' ∧ xo (e3 x) t3 = e3 x')) (HY : Hid (xo (e0 y) t0 = e0 y' ∧ xo (e1 y) t1 = e1 y' ∧ xo (e2 y) t2 = e2 y' ∧ xo (e3 y) t3 = e3 y')) (w : World) :
  Calls Tryz.prog 93 #[(.agg (ea x)), (.agg (ea y)), .int .u64 n] w fun e w' => e = .returned (.tuple #[(.agg (ea x')), (.agg (ea y'))]) ∧ Below w.heap.size w w' := by
 go_enter Tryz.func93, Tryz.ntmps93
 go_upto_region 3 with fail
 have HS : SwS w (w.heap.size) (w.heap.size + 1) (w.heap.size + 1 + 1 + 1 + 1) x y t0 t1 t2 t3 (((((w.alloc (.cells (ea x) 101)).alloc (.cells (ea y) 101)).alloc (.cells zq4 101)).alloc (.cells zq4 101)).alloc (.cells #[.int .u64 t0, .int .u64 t1, .int .u64 t2, .int .u64 t3] 99)) := by
  refine ⟨bel5 _ _ _ _ _ _, ?_, ?_, ?_⟩
  ·exact ⟨by simp [go_sem], by simp [go_sem], by simp [go_sem], by simp [go_sem]⟩
  ·exact ⟨by simp [go_sem], by simp [go_sem], by simp [go_sem], by simp [go_sem]⟩
  ·exact ⟨by simp [go_sem], by simp [go_sem], by simp [go_sem], by simp [go_sem]⟩
 have O2 : Hid (Own (((((w.alloc (.cells (ea x) 101)).alloc (.cells (ea y) 101)).alloc (.cells zq4 101)).alloc (.cells zq4 101)).alloc (.cells #[.int .u64 t0, .int .u64 t1, .int .u64 t2, .int .u64 t3] 99)) (w.heap.size + 1 + 1)) := ⟨⟨.int .u64 0, by simp [go_sem]⟩, ⟨.int .u64 0, by simp [go_sem]⟩, ⟨.int .u64 0, by simp [go_sem]⟩, ⟨.int .u64 0, by simp [go_sem]⟩, by simp [go_sem], by simp [go_sem], by simp [go_sem], by simp [go_sem]⟩
 have O3 : Hid (Own (((((w.alloc (.cells (ea x) 101)).alloc (.cells (ea y) 101)).alloc (.cells zq4 101)).alloc (.cells zq4 101)).alloc (.cells #[.int .u64 t0, .int .u64 t1, .int .u64 t2, .int .u64 t3] 99)) (w.heap.size + 1 + 1 + 1)) := ⟨⟨.int .u64 0, by simp [go_sem]⟩, ⟨.int .u64 0, by simp [go_sem]⟩, ⟨.int .u64 0, by simp [go_sem]⟩, ⟨.int .u64 0, by simp [go_sem]⟩, by simp [go_sem], by simp [go_sem], by simp [go_sem], by simp [go_sem]⟩
 generalize ((((w.alloc (.cells (ea x) 101)).alloc (.cells (ea y) 101)).alloc (.cells zq4 101)).alloc (.cells zq4 101)).alloc (.cells #[.int .u64 t0, .int .u64 t1, .int .u64 t2, .int .u64 t3] 99) = W0 at *
 have k1 : w.heap.size < w.heap.size + 1 := by omega
 have k2 : w.heap.size + 1 < w.heap.size + 1 + 1 := by omega
 have k3 : w.heap.size + 1 + 1 < w.heap.size + 1 + 1 + 1 := by omega
 have k4 : w.heap.size + 1 + 1 + 1 < w.heap.size + 1 + 1 + 1 + 1 := by omega
 generalize w.heap.size + 1 + 1 + 1 + 1 = b4 at *
 generalize w.heap.size + 1 + 1 + 1 = b3 at *
 generalize w.heap.size + 1 + 1 = b2 at *
 generalize w.heap.size + 1 = b1 at *
 clear hc hq a0 a1 a2 a3
 have x0 : ∀ u, SwS w (w.heap.size) b1 b4 x y t0 t1 t2 t3 u → u.cell? ⟨w.heap.size, 0, none⟩ = some (.int .u64 (e0 x)) := fun u hu => hu.vx.c0
 have y0 : ∀ u, SwS w (w.heap.size) b1 b4 x y t0 t1 t2 t3 u → u.cell? ⟨b1, 0, none⟩ = some (.int .u64 (e0 y)) := fun u hu => hu.vy.c0
 have m0 : ∀ u, SwS w (w.heap.size) b1 b4 x y t0 t1 t2 t3 u → u.cell? ⟨b4, 0, none⟩ = some (.int .u64 t0) := fun u hu => hu.lm.c0
 have x1 : ∀ u, SwS w (w.heap.size) b1 b4 x y t0 t1 t2 t3 u → u.cell? ⟨w.heap.size, 1, none⟩ = some (.int .u64 (e1 x)) := fun u hu => hu.vx.c1
 have y1 : ∀ u, SwS w (w.heap.size) b1 b4 x y t0 t1 t2 t3 u → u.cell? ⟨b1, 1, none⟩ = some (.int .u64 (e1 y)) := fun u hu => hu.vy.c1
 have m1 : ∀ u, SwS w (w.heap.size) b1 b4 x y t0 t1 t2 t3 u → u.cell? ⟨b4, 1, none⟩ = some (.int .u64 t1) := fun u hu => hu.lm.c1
 have x2 : ∀ u, SwS w (w.heap.size) b1 b4 x y t0 t1 t2 t3 u → u.cell? ⟨w.heap.size, 2, none⟩ = some (.int .u64 (e2 x)) := fun u hu => hu.vx.c2
 have y2 : ∀ u, SwS w (w.heap.size) b1 b4 x y t0 t1 t2 t3 u → u.cell? ⟨b1, 2, none⟩ = some (.int .u64 (e2 y)) := fun u hu => hu.vy.c2
 have m2 : ∀ u, SwS w (w.heap.size) b1 b4 x y t0 t1 t2 t3 u → u.cell? ⟨b4, 2, none⟩ = some (.int .u64 t2) := fun u hu => hu.lm.c2
 have x3 : ∀ u, SwS w (w.heap.size) b1 b4 x y t0 t1 t2 t3 u → u.cell? ⟨w.heap.size, 3, none⟩ = some (.int .u64 (e3 x)) := fun u hu => hu.vx.c3
 have y3 : ∀ u, SwS w (w.heap.size) b1 b4 x y t0 t1 t2 t3 u → u.cell? ⟨b1, 3, none⟩ = some (.int .u64 (e3 y)) := fun u hu => hu.vy.c3
 have m3 : ∀ u, SwS w (w.heap.size) b1 b4 x y t0 t1 t2 t3 u → u.cell? ⟨b4, 3, none⟩ = some (.int .u64 t3) := fun u hu => hu.lm.c3
 refine wp_region_noPanic ?_
 refine wp_region_held_drew (S := SwS w (w.heap.size) b1 b4 x y t0 t1 t2 t3) (by kernel_rfl) (HS.later (Below.refl _ _).drew) (fun hH => ?_)
 change wpAnyH _ _ _ _ _ _ #[false, false, false, false, false, false, false, false, false, false, false, false] _ _
 refine tn 0 ?_
 refine tn 1 ?_
 refine tn 2 ?_
 refine tn 5 ?_
 refine tn 6 ?_
 refine tn 7 ?_
 clear x0 x1 x2 x3 y0 y1 y2 y3 m0 m1 m2 m3
 replace O2 : Hid (Own W0.drew b2) := O2.out.later (Below.refl _ _).drew
 replace O3 : Hid (Own W0.drew b3) := O3.out.later (Below.refl _ _).drew
 clear HS
 generalize W0.drew = y0 at *
 refine rdy 3 (fun K hK => ?_)
 go_simp
 refine (flip_any _ _ _ _ _ _ _ _ _).mono ?_
 rintro e wa ⟨rfl, hb⟩
 rw [HX.out.1, HX.out.2.1, HX.out.2.2.1, HX.out.2.2.2]
 refine ko hK (hH.later hb) fun hH => ?_; clear hK K
 replace O2 := hidp (O2.out.later hb)
 replace O3 := hidp (O3.out.later hb)
 clear hb
 refine tn 4 ?_
 refine rdy 8 (fun K hK => ?_)
 go_simp
 refine (flip_any _ _ _ _ _ _ _ _ _).mono ?_
 rintro e wb ⟨rfl, hb⟩
 rw [HY.out.1, HY.out.2.1, HY.out.2.2.1, HY.out.2.2.2]
 refine ko hK (hH.later hb) fun hH => ?_; clear hK K
 replace O2 := hidp (O2.out.later hb)
 replace O3 := hidp (O3.out.later hb)
 clear hb
 refine tn 9 ?_
 obtain ⟨⟨_, nc0⟩, ⟨_, nc1⟩, ⟨_, nc2⟩, ⟨_, nc3⟩, nf0, nf1, nf2, nf3⟩ := O2.out
 refine rdy 10 (fun K hK => ?_)
 go_simp
 refine ko hK (hH.set4 b2 (by omega) (by omega) (by omega) (by omega) _ _ _ _) fun hH => ?_; clear hK K
 have V10 : Hid (Var ((((wb.setCell ⟨b2, 0, none⟩ (.int .u64 (e0 x'))).setCell ⟨b2, 1, none⟩ (.int .u64 (e1 x'))).setCell ⟨b2, 2, none⟩ (.int .u64 (e2 x'))).setCell ⟨b2, 3, none⟩ (.int .u64 (e3 x'))) b2 x') := var_set wb b2 x' O2.out
 replace O3 : Hid (Own ((((wb.setCell ⟨b2, 0, none⟩ (.int .u64 (e0 x'))).setCell ⟨b2, 1, none⟩ (.int .u64 (e1 x'))).setCell ⟨b2, 2, none⟩ (.int .u64 (e2 x'))).setCell ⟨b2, 3, none⟩ (.int .u64 (e3 x'))) b3) := own_other O3.out (by omega) _ _ _ _
 clear nc0 nc1 nc2 nc3 nf0 nf1 nf2 nf3
 generalize (((wb.setCell ⟨b2, 0, none⟩ (.int .u64 (e0 x'))).setCell ⟨b2, 1, none⟩ (.int .u64 (e1 x'))).setCell ⟨b2, 2, none⟩ (.int .u64 (e2 x'))).setCell ⟨b2, 3, none⟩ (.int .u64 (e3 x')) = c10 at *
 obtain ⟨⟨_, nc0⟩, ⟨_, nc1⟩, ⟨_, nc2⟩, ⟨_, nc3⟩, nf0, nf1, nf2, nf3⟩ := O3.out
 refine rdy 11 (fun K hK => ?_)
 go_simp
 refine ko hK (hH.set4 b3 (by omega) (by omega) (by omega) (by omega) _ _ _ _) fun hH => ?_; clear hK K
 have V11 : Hid (Var ((((c10.setCell ⟨b3, 0, none⟩ (.int .u64 (e0 y'))).setCell ⟨b3, 1, none⟩ (.int .u64 (e1 y'))).setCell ⟨b3, 2, none⟩ (.int .u64 (e2 y'))).setCell ⟨b3, 3, none⟩ (.int .u64 (e3 y'))) b3 y') := var_set c10 b3 y' O3.out
 replace V10 : Hid (Var ((((c10.setCell ⟨b3, 0, none⟩ (.int .u64 (e0 y'))).setCell ⟨b3, 1, none⟩ (.int .u64 (e1 y'))).setCell ⟨b3, 2, none⟩ (.int .u64 (e2 y'))).setCell ⟨b3, 3, none⟩ (.int .u64 (e3 y'))) b2 x') := var_other V10.out (by omega) _ _ _ _
 clear nc0 nc1 nc2 nc3 nf0 nf1 nf2 nf3
 generalize (((c10.setCell ⟨b3, 0, none⟩ (.int .u64 (e0 y'))).setCell ⟨b3, 1, none⟩ (.int .u64 (e1 y'))).setCell ⟨b3, 2, none⟩ (.int .u64 (e2 y'))).setCell ⟨b3, 3, none⟩ (.int .u64 (e3 y')) = c11 at *
 refine wpAnyH_done (by kernel_rfl) ?_ _
 refine NoPanic.normal ?_
 obtain ⟨p0, p1, p2, p3⟩ := V10.out
 obtain ⟨q0, q1, q2, q3⟩ := V11.out
 go_wp2
 exact bodyPost_ret (v := .tuple #[(.agg (ea x')), (.agg (ea y'))]) (by simp [results, Tryz.results93, go_sem, p0, p1, p2, p3, q0, q1, q2, q3]) rfl ⟨rfl, hH.bel⟩

theorem and_none (a : Int) (h : Wd a) : bits .and .u64 0 a = 0 := by
 obtain ⟨h0, h1⟩ := h
 obtain ⟨a, rfl⟩ := Int.eq_ofNat_of_zero_le h0
 have := bits_and_u64_nat 0 a (by omega) (by omega)
 simpa using this
theorem and_all (a : Int) (h : Wd a) : bits .and .u64 18446744073709551615 a = a := by
 obtain ⟨h0, h1⟩ := h
 obtain ⟨a, rfl⟩ := Int.eq_ofNat_of_zero_le h0
 have := bits_and_u64_nat 18446744073709551615 a (by omega) (by omega)
 have e : 18446744073709551615 &&& a = a := by
  rw [Nat.and_comm]
  have := Nat.and_two_pow_sub_one_eq_mod a 64
  rw [Nat.mod_eq_of_lt (by omega)] at this
  exact this
 rw [e] at this
 exact this
theorem and_one (n : Int) (h : Wd n) : bits .and .u64 n 1 = n % 2 := by
 obtain ⟨h0, h1⟩ := h
 obtain ⟨n, rfl⟩ := Int.eq_ofNat_of_zero_le h0
 have := bits_and_u64_nat n 1 (by omega) (by omega)
 rw [Nat.and_one_is_mod] at this
 rw [show ((n : Int) % 2) = ((n % 2 : Nat) : Int) by omega]
 exact this
theorem swap_even (x y n : Int) (hx : El x) (hy : El y) (hn : Wd n) (h : n % 2 = 0) (w : World) :
  Calls Tryz.prog 93 #[(.agg (ea x)), (.agg (ea y)), .int .u64 n] w fun e w' => e = .returned (.tuple #[(.agg (ea x)), (.agg (ea y))]) ∧ Below w.heap.size w w' := by
 obtain ⟨x0, x1, x2, x3⟩ := hx.wd
 obtain ⟨y0, y1, y2, y3⟩ := hy.wd
 exact swap_g x y n 0 0 0 0 0 0 x y (by rw [and_one n hn, h]) (by decide) (and_none _ (xo_wd _ _ x0 y0)) (and_none _ (xo_wd _ _ x1 y1)) (and_none _ (xo_wd _ _ x2 y2)) (and_none _ (xo_wd _ _ x3 y3))
  ⟨xo_none _ x0, xo_none _ x1, xo_none _ x2, xo_none _ x3⟩ ⟨xo_none _ y0, xo_none _ y1, xo_none _ y2, xo_none _ y3⟩ w
theorem swap_odd (x y n : Int) (hx : El x) (hy : El y) (hn : Wd n) (h : n % 2 = 1) (w : World) :
  Calls Tryz.prog 93 #[(.agg (ea x)), (.agg (ea y)), .int .u64 n] w fun e w' => e = .returned (.tuple #[(.agg (ea y)), (.agg (ea x))]) ∧ Below w.heap.size w w' := by
 obtain ⟨x0, x1, x2, x3⟩ := hx.wd
 obtain ⟨y0, y1, y2, y3⟩ := hy.wd
 exact swap_g x y n 1 18446744073709551615 _ _ _ _ y x (by rw [and_one n hn, h]) (by decide) (and_all _ (xo_wd _ _ x0 y0)) (and_all _ (xo_wd _ _ x1 y1)) (and_all _ (xo_wd _ _ x2 y2)) (and_all _ (xo_wd _ _ x3 y3))
  ⟨(xo_self _ _ x0 y0).1, (xo_self _ _ x1 y1).1, (xo_self _ _ x2 y2).1, (xo_self _ _ x3 y3).1⟩ ⟨(xo_self _ _ x0 y0).2, (xo_self _ _ x1 y1).2, (xo_self _ _ x2 y2).2, (xo_self _ _ x3 y3).2⟩ w
end Go.Proofs.YtlnbjehimabaiaaGreatDoor.Fc
