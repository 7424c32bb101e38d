/-
  What field's Mul does, for whatever numbers below p. No statement of the seat is proved here.
-/
import Derived.Test.YtggjifpcoidipaaDoorFEl
namespace Go.Proofs.YtggjifpcoidipaaDoor
open Go.RowKit

theorem mul_sum (x y l0 l1 l2 l3 g0 g1 g2 g3 l V : Int) (hx : El x) (y0 : 0 ≤ y) (y1 : y < 57896044618658097711785492504343953926634992332820282019728792003956564819949) (b0 : Wd l0) (b1 : Wd l1) (b2 : Wd l2) (b3 : Wd l3)
    (q0 : l0 + g0 * 18446744073709551616 = 0 + e0 x * y) (q1 : l1 + g1 * 18446744073709551616 = g0 + e1 x * y) (q2 : l2 + g2 * 18446744073709551616 = g1 + e2 x * y) (q3 : l3 + g3 * 18446744073709551616 = g2 + e3 x * y)
    (q : l + V * 18446744073709551616 = vl l0 l1 l2 l3 + 38 * g3) : (l + V * 18446744073709551616) % 57896044618658097711785492504343953926634992332820282019728792003956564819949 = x * y % 57896044618658097711785492504343953926634992332820282019728792003956564819949 ∧ l + V * 18446744073709551616 < 39 * 115792089237316195423570985008687907853269984665640564039457584007913129639936 := by
  have e : x * y = vl l0 l1 l2 l3 + g3 * 115792089237316195423570985008687907853269984665640564039457584007913129639936 := by
    have hv := hx.vl
    have : x * y = vl (e0 x) (e1 x) (e2 x) (e3 x) * y := by rw [hv]
    rw [this]
    have ee : vl (e0 x) (e1 x) (e2 x) (e3 x) * y = vl (e0 x * y) (e1 x * y) (e2 x * y) (e3 x * y) := by
      rw [Int.mul_comm, mul_vl, Int.mul_comm y, Int.mul_comm y, Int.mul_comm y, Int.mul_comm y]
    rw [ee]
    clear ee
    generalize e0 x * y = m0 at *
    generalize e1 x * y = m1 at *
    generalize e2 x * y = m2 at *
    generalize e3 x * y = m3 at *
    unfold vl
    omega
  have hb : x * y < 57896044618658097711785492504343953926634992332820282019728792003956564819949 * 57896044618658097711785492504343953926634992332820282019728792003956564819949 := Int.lt_of_le_of_lt (Int.mul_le_mul (c := 57896044618658097711785492504343953926634992332820282019728792003956564819949 - 1) (d := 57896044618658097711785492504343953926634992332820282019728792003956564819949 - 1) (by have := hx.h1; omega) (by omega) y0 (by decide)) (by decide)
  obtain ⟨_, _⟩ := b0
  obtain ⟨_, _⟩ := b1
  obtain ⟨_, _⟩ := b2
  obtain ⟨_, _⟩ := b3
  constructor
  · rw [q, e]
    have e3 : vl l0 l1 l2 l3 + g3 * 115792089237316195423570985008687907853269984665640564039457584007913129639936 = vl l0 l1 l2 l3 + 38 * g3 + 57896044618658097711785492504343953926634992332820282019728792003956564819949 * (2 * g3) := by omega
    rw [e3, Int.add_mul_emod_self_left]
  · rw [q]
    generalize x * y = m at *
    unfold vl at *
    omega

set_option maxHeartbeats 4000000 in
theorem mul_e (x y : Int) (hx : El x) (hy : El y) (w : World) :
    Calls Tryd.prog 10 #[(.agg #[.int .u64 (e0 x), .int .u64 (e1 x), .int .u64 (e2 x), .int .u64 (e3 x)]), (.agg #[.int .u64 (e0 y), .int .u64 (e1 y), .int .u64 (e2 y), .int .u64 (e3 y)])] w fun e w' => ∃ z, e = .returned (.agg #[.int .u64 (e0 z), .int .u64 (e1 z), .int .u64 (e2 z), .int .u64 (e3 z)]) ∧ El z ∧ Hid (z = x * y % 57896044618658097711785492504343953926634992332820282019728792003956564819949) ∧ Below w.heap.size w w' := by
  have HY : Hid (vl (e0 y) (e1 y) (e2 y) (e3 y) = y) := hy.vl
  have HX := hx
  obtain ⟨x0, x1, x2, x3⟩ := hx.wd
  have hyw := hy.wd
  have z : Wd 0 := ⟨by decide, by decide⟩
  go_enter Tryd.func10, Tryd.ntmps10
  go_upto_region 2 with fail
  have xc0' : (((((w.alloc (.cells #[.int .u64 (e0 x), .int .u64 (e1 x), .int .u64 (e2 x), .int .u64 (e3 x)] 28)).alloc (.cells #[.int .u64 (e0 y), .int .u64 (e1 y), .int .u64 (e2 y), .int .u64 (e3 y)] 28)).alloc (.cells #[.int .u64 0, .int .u64 0, .int .u64 0, .int .u64 0] 28)).alloc (.cells #[.int .u64 0, .int .u64 0, .int .u64 0, .int .u64 0] 26)).alloc (.cells #[.int .u64 0, .int .u64 0, .int .u64 0, .int .u64 0] 26)).cell? ⟨w.heap.size, 0, none⟩ = some (.int .u64 (e0 x)) := by simp [go_sem]
  have xc1' : (((((w.alloc (.cells #[.int .u64 (e0 x), .int .u64 (e1 x), .int .u64 (e2 x), .int .u64 (e3 x)] 28)).alloc (.cells #[.int .u64 (e0 y), .int .u64 (e1 y), .int .u64 (e2 y), .int .u64 (e3 y)] 28)).alloc (.cells #[.int .u64 0, .int .u64 0, .int .u64 0, .int .u64 0] 28)).alloc (.cells #[.int .u64 0, .int .u64 0, .int .u64 0, .int .u64 0] 26)).alloc (.cells #[.int .u64 0, .int .u64 0, .int .u64 0, .int .u64 0] 26)).cell? ⟨w.heap.size, 1, none⟩ = some (.int .u64 (e1 x)) := by simp [go_sem]
  have xc2' : (((((w.alloc (.cells #[.int .u64 (e0 x), .int .u64 (e1 x), .int .u64 (e2 x), .int .u64 (e3 x)] 28)).alloc (.cells #[.int .u64 (e0 y), .int .u64 (e1 y), .int .u64 (e2 y), .int .u64 (e3 y)] 28)).alloc (.cells #[.int .u64 0, .int .u64 0, .int .u64 0, .int .u64 0] 28)).alloc (.cells #[.int .u64 0, .int .u64 0, .int .u64 0, .int .u64 0] 26)).alloc (.cells #[.int .u64 0, .int .u64 0, .int .u64 0, .int .u64 0] 26)).cell? ⟨w.heap.size, 2, none⟩ = some (.int .u64 (e2 x)) := by simp [go_sem]
  have xc3' : (((((w.alloc (.cells #[.int .u64 (e0 x), .int .u64 (e1 x), .int .u64 (e2 x), .int .u64 (e3 x)] 28)).alloc (.cells #[.int .u64 (e0 y), .int .u64 (e1 y), .int .u64 (e2 y), .int .u64 (e3 y)] 28)).alloc (.cells #[.int .u64 0, .int .u64 0, .int .u64 0, .int .u64 0] 28)).alloc (.cells #[.int .u64 0, .int .u64 0, .int .u64 0, .int .u64 0] 26)).alloc (.cells #[.int .u64 0, .int .u64 0, .int .u64 0, .int .u64 0] 26)).cell? ⟨w.heap.size, 3, none⟩ = some (.int .u64 (e3 x)) := by simp [go_sem]
  have yc0' : (((((w.alloc (.cells #[.int .u64 (e0 x), .int .u64 (e1 x), .int .u64 (e2 x), .int .u64 (e3 x)] 28)).alloc (.cells #[.int .u64 (e0 y), .int .u64 (e1 y), .int .u64 (e2 y), .int .u64 (e3 y)] 28)).alloc (.cells #[.int .u64 0, .int .u64 0, .int .u64 0, .int .u64 0] 28)).alloc (.cells #[.int .u64 0, .int .u64 0, .int .u64 0, .int .u64 0] 26)).alloc (.cells #[.int .u64 0, .int .u64 0, .int .u64 0, .int .u64 0] 26)).cell? ⟨w.heap.size + 1, 0, none⟩ = some (.int .u64 (e0 y)) := by simp [go_sem]
  have yc1' : (((((w.alloc (.cells #[.int .u64 (e0 x), .int .u64 (e1 x), .int .u64 (e2 x), .int .u64 (e3 x)] 28)).alloc (.cells #[.int .u64 (e0 y), .int .u64 (e1 y), .int .u64 (e2 y), .int .u64 (e3 y)] 28)).alloc (.cells #[.int .u64 0, .int .u64 0, .int .u64 0, .int .u64 0] 28)).alloc (.cells #[.int .u64 0, .int .u64 0, .int .u64 0, .int .u64 0] 26)).alloc (.cells #[.int .u64 0, .int .u64 0, .int .u64 0, .int .u64 0] 26)).cell? ⟨w.heap.size + 1, 1, none⟩ = some (.int .u64 (e1 y)) := by simp [go_sem]
  have yc2' : (((((w.alloc (.cells #[.int .u64 (e0 x), .int .u64 (e1 x), .int .u64 (e2 x), .int .u64 (e3 x)] 28)).alloc (.cells #[.int .u64 (e0 y), .int .u64 (e1 y), .int .u64 (e2 y), .int .u64 (e3 y)] 28)).alloc (.cells #[.int .u64 0, .int .u64 0, .int .u64 0, .int .u64 0] 28)).alloc (.cells #[.int .u64 0, .int .u64 0, .int .u64 0, .int .u64 0] 26)).alloc (.cells #[.int .u64 0, .int .u64 0, .int .u64 0, .int .u64 0] 26)).cell? ⟨w.heap.size + 1, 2, none⟩ = some (.int .u64 (e2 y)) := by simp [go_sem]
  have yc3' : (((((w.alloc (.cells #[.int .u64 (e0 x), .int .u64 (e1 x), .int .u64 (e2 x), .int .u64 (e3 x)] 28)).alloc (.cells #[.int .u64 (e0 y), .int .u64 (e1 y), .int .u64 (e2 y), .int .u64 (e3 y)] 28)).alloc (.cells #[.int .u64 0, .int .u64 0, .int .u64 0, .int .u64 0] 28)).alloc (.cells #[.int .u64 0, .int .u64 0, .int .u64 0, .int .u64 0] 26)).alloc (.cells #[.int .u64 0, .int .u64 0, .int .u64 0, .int .u64 0] 26)).cell? ⟨w.heap.size + 1, 3, none⟩ = some (.int .u64 (e3 y)) := by simp [go_sem]
  have dc0' : (((((w.alloc (.cells #[.int .u64 (e0 x), .int .u64 (e1 x), .int .u64 (e2 x), .int .u64 (e3 x)] 28)).alloc (.cells #[.int .u64 (e0 y), .int .u64 (e1 y), .int .u64 (e2 y), .int .u64 (e3 y)] 28)).alloc (.cells #[.int .u64 0, .int .u64 0, .int .u64 0, .int .u64 0] 28)).alloc (.cells #[.int .u64 0, .int .u64 0, .int .u64 0, .int .u64 0] 26)).alloc (.cells #[.int .u64 0, .int .u64 0, .int .u64 0, .int .u64 0] 26)).cell? ⟨w.heap.size + 2, 0, none⟩ = some (.int .u64 0) := by simp [go_sem]
  have df0' : (((((w.alloc (.cells #[.int .u64 (e0 x), .int .u64 (e1 x), .int .u64 (e2 x), .int .u64 (e3 x)] 28)).alloc (.cells #[.int .u64 (e0 y), .int .u64 (e1 y), .int .u64 (e2 y), .int .u64 (e3 y)] 28)).alloc (.cells #[.int .u64 0, .int .u64 0, .int .u64 0, .int .u64 0] 28)).alloc (.cells #[.int .u64 0, .int .u64 0, .int .u64 0, .int .u64 0] 26)).alloc (.cells #[.int .u64 0, .int .u64 0, .int .u64 0, .int .u64 0] 26)).frozen? ⟨w.heap.size + 2, 0, none⟩ = false := by simp [go_sem]
  have dc1' : (((((w.alloc (.cells #[.int .u64 (e0 x), .int .u64 (e1 x), .int .u64 (e2 x), .int .u64 (e3 x)] 28)).alloc (.cells #[.int .u64 (e0 y), .int .u64 (e1 y), .int .u64 (e2 y), .int .u64 (e3 y)] 28)).alloc (.cells #[.int .u64 0, .int .u64 0, .int .u64 0, .int .u64 0] 28)).alloc (.cells #[.int .u64 0, .int .u64 0, .int .u64 0, .int .u64 0] 26)).alloc (.cells #[.int .u64 0, .int .u64 0, .int .u64 0, .int .u64 0] 26)).cell? ⟨w.heap.size + 2, 1, none⟩ = some (.int .u64 0) := by simp [go_sem]
  have df1' : (((((w.alloc (.cells #[.int .u64 (e0 x), .int .u64 (e1 x), .int .u64 (e2 x), .int .u64 (e3 x)] 28)).alloc (.cells #[.int .u64 (e0 y), .int .u64 (e1 y), .int .u64 (e2 y), .int .u64 (e3 y)] 28)).alloc (.cells #[.int .u64 0, .int .u64 0, .int .u64 0, .int .u64 0] 28)).alloc (.cells #[.int .u64 0, .int .u64 0, .int .u64 0, .int .u64 0] 26)).alloc (.cells #[.int .u64 0, .int .u64 0, .int .u64 0, .int .u64 0] 26)).frozen? ⟨w.heap.size + 2, 1, none⟩ = false := by simp [go_sem]
  have dc2' : (((((w.alloc (.cells #[.int .u64 (e0 x), .int .u64 (e1 x), .int .u64 (e2 x), .int .u64 (e3 x)] 28)).alloc (.cells #[.int .u64 (e0 y), .int .u64 (e1 y), .int .u64 (e2 y), .int .u64 (e3 y)] 28)).alloc (.cells #[.int .u64 0, .int .u64 0, .int .u64 0, .int .u64 0] 28)).alloc (.cells #[.int .u64 0, .int .u64 0, .int .u64 0, .int .u64 0] 26)).alloc (.cells #[.int .u64 0, .int .u64 0, .int .u64 0, .int .u64 0] 26)).cell? ⟨w.heap.size + 2, 2, none⟩ = some (.int .u64 0) := by simp [go_sem]
  have df2' : (((((w.alloc (.cells #[.int .u64 (e0 x), .int .u64 (e1 x), .int .u64 (e2 x), .int .u64 (e3 x)] 28)).alloc (.cells #[.int .u64 (e0 y), .int .u64 (e1 y), .int .u64 (e2 y), .int .u64 (e3 y)] 28)).alloc (.cells #[.int .u64 0, .int .u64 0, .int .u64 0, .int .u64 0] 28)).alloc (.cells #[.int .u64 0, .int .u64 0, .int .u64 0, .int .u64 0] 26)).alloc (.cells #[.int .u64 0, .int .u64 0, .int .u64 0, .int .u64 0] 26)).frozen? ⟨w.heap.size + 2, 2, none⟩ = false := by simp [go_sem]
  have dc3' : (((((w.alloc (.cells #[.int .u64 (e0 x), .int .u64 (e1 x), .int .u64 (e2 x), .int .u64 (e3 x)] 28)).alloc (.cells #[.int .u64 (e0 y), .int .u64 (e1 y), .int .u64 (e2 y), .int .u64 (e3 y)] 28)).alloc (.cells #[.int .u64 0, .int .u64 0, .int .u64 0, .int .u64 0] 28)).alloc (.cells #[.int .u64 0, .int .u64 0, .int .u64 0, .int .u64 0] 26)).alloc (.cells #[.int .u64 0, .int .u64 0, .int .u64 0, .int .u64 0] 26)).cell? ⟨w.heap.size + 2, 3, none⟩ = some (.int .u64 0) := by simp [go_sem]
  have df3' : (((((w.alloc (.cells #[.int .u64 (e0 x), .int .u64 (e1 x), .int .u64 (e2 x), .int .u64 (e3 x)] 28)).alloc (.cells #[.int .u64 (e0 y), .int .u64 (e1 y), .int .u64 (e2 y), .int .u64 (e3 y)] 28)).alloc (.cells #[.int .u64 0, .int .u64 0, .int .u64 0, .int .u64 0] 28)).alloc (.cells #[.int .u64 0, .int .u64 0, .int .u64 0, .int .u64 0] 26)).alloc (.cells #[.int .u64 0, .int .u64 0, .int .u64 0, .int .u64 0] 26)).frozen? ⟨w.heap.size + 2, 3, none⟩ = false := by simp [go_sem]
  have lc0' : (((((w.alloc (.cells #[.int .u64 (e0 x), .int .u64 (e1 x), .int .u64 (e2 x), .int .u64 (e3 x)] 28)).alloc (.cells #[.int .u64 (e0 y), .int .u64 (e1 y), .int .u64 (e2 y), .int .u64 (e3 y)] 28)).alloc (.cells #[.int .u64 0, .int .u64 0, .int .u64 0, .int .u64 0] 28)).alloc (.cells #[.int .u64 0, .int .u64 0, .int .u64 0, .int .u64 0] 26)).alloc (.cells #[.int .u64 0, .int .u64 0, .int .u64 0, .int .u64 0] 26)).cell? ⟨w.heap.size + 3, 0, none⟩ = some (.int .u64 0) := by simp [go_sem]
  have lf0' : (((((w.alloc (.cells #[.int .u64 (e0 x), .int .u64 (e1 x), .int .u64 (e2 x), .int .u64 (e3 x)] 28)).alloc (.cells #[.int .u64 (e0 y), .int .u64 (e1 y), .int .u64 (e2 y), .int .u64 (e3 y)] 28)).alloc (.cells #[.int .u64 0, .int .u64 0, .int .u64 0, .int .u64 0] 28)).alloc (.cells #[.int .u64 0, .int .u64 0, .int .u64 0, .int .u64 0] 26)).alloc (.cells #[.int .u64 0, .int .u64 0, .int .u64 0, .int .u64 0] 26)).frozen? ⟨w.heap.size + 3, 0, none⟩ = false := by simp [go_sem]
  have lc1' : (((((w.alloc (.cells #[.int .u64 (e0 x), .int .u64 (e1 x), .int .u64 (e2 x), .int .u64 (e3 x)] 28)).alloc (.cells #[.int .u64 (e0 y), .int .u64 (e1 y), .int .u64 (e2 y), .int .u64 (e3 y)] 28)).alloc (.cells #[.int .u64 0, .int .u64 0, .int .u64 0, .int .u64 0] 28)).alloc (.cells #[.int .u64 0, .int .u64 0, .int .u64 0, .int .u64 0] 26)).alloc (.cells #[.int .u64 0, .int .u64 0, .int .u64 0, .int .u64 0] 26)).cell? ⟨w.heap.size + 3, 1, none⟩ = some (.int .u64 0) := by simp [go_sem]
  have lf1' : (((((w.alloc (.cells #[.int .u64 (e0 x), .int .u64 (e1 x), .int .u64 (e2 x), .int .u64 (e3 x)] 28)).alloc (.cells #[.int .u64 (e0 y), .int .u64 (e1 y), .int .u64 (e2 y), .int .u64 (e3 y)] 28)).alloc (.cells #[.int .u64 0, .int .u64 0, .int .u64 0, .int .u64 0] 28)).alloc (.cells #[.int .u64 0, .int .u64 0, .int .u64 0, .int .u64 0] 26)).alloc (.cells #[.int .u64 0, .int .u64 0, .int .u64 0, .int .u64 0] 26)).frozen? ⟨w.heap.size + 3, 1, none⟩ = false := by simp [go_sem]
  have lc2' : (((((w.alloc (.cells #[.int .u64 (e0 x), .int .u64 (e1 x), .int .u64 (e2 x), .int .u64 (e3 x)] 28)).alloc (.cells #[.int .u64 (e0 y), .int .u64 (e1 y), .int .u64 (e2 y), .int .u64 (e3 y)] 28)).alloc (.cells #[.int .u64 0, .int .u64 0, .int .u64 0, .int .u64 0] 28)).alloc (.cells #[.int .u64 0, .int .u64 0, .int .u64 0, .int .u64 0] 26)).alloc (.cells #[.int .u64 0, .int .u64 0, .int .u64 0, .int .u64 0] 26)).cell? ⟨w.heap.size + 3, 2, none⟩ = some (.int .u64 0) := by simp [go_sem]
  have lf2' : (((((w.alloc (.cells #[.int .u64 (e0 x), .int .u64 (e1 x), .int .u64 (e2 x), .int .u64 (e3 x)] 28)).alloc (.cells #[.int .u64 (e0 y), .int .u64 (e1 y), .int .u64 (e2 y), .int .u64 (e3 y)] 28)).alloc (.cells #[.int .u64 0, .int .u64 0, .int .u64 0, .int .u64 0] 28)).alloc (.cells #[.int .u64 0, .int .u64 0, .int .u64 0, .int .u64 0] 26)).alloc (.cells #[.int .u64 0, .int .u64 0, .int .u64 0, .int .u64 0] 26)).frozen? ⟨w.heap.size + 3, 2, none⟩ = false := by simp [go_sem]
  have lc3' : (((((w.alloc (.cells #[.int .u64 (e0 x), .int .u64 (e1 x), .int .u64 (e2 x), .int .u64 (e3 x)] 28)).alloc (.cells #[.int .u64 (e0 y), .int .u64 (e1 y), .int .u64 (e2 y), .int .u64 (e3 y)] 28)).alloc (.cells #[.int .u64 0, .int .u64 0, .int .u64 0, .int .u64 0] 28)).alloc (.cells #[.int .u64 0, .int .u64 0, .int .u64 0, .int .u64 0] 26)).alloc (.cells #[.int .u64 0, .int .u64 0, .int .u64 0, .int .u64 0] 26)).cell? ⟨w.heap.size + 3, 3, none⟩ = some (.int .u64 0) := by simp [go_sem]
  have lf3' : (((((w.alloc (.cells #[.int .u64 (e0 x), .int .u64 (e1 x), .int .u64 (e2 x), .int .u64 (e3 x)] 28)).alloc (.cells #[.int .u64 (e0 y), .int .u64 (e1 y), .int .u64 (e2 y), .int .u64 (e3 y)] 28)).alloc (.cells #[.int .u64 0, .int .u64 0, .int .u64 0, .int .u64 0] 28)).alloc (.cells #[.int .u64 0, .int .u64 0, .int .u64 0, .int .u64 0] 26)).alloc (.cells #[.int .u64 0, .int .u64 0, .int .u64 0, .int .u64 0] 26)).frozen? ⟨w.heap.size + 3, 3, none⟩ = false := by simp [go_sem]
  have hc0' : (((((w.alloc (.cells #[.int .u64 (e0 x), .int .u64 (e1 x), .int .u64 (e2 x), .int .u64 (e3 x)] 28)).alloc (.cells #[.int .u64 (e0 y), .int .u64 (e1 y), .int .u64 (e2 y), .int .u64 (e3 y)] 28)).alloc (.cells #[.int .u64 0, .int .u64 0, .int .u64 0, .int .u64 0] 28)).alloc (.cells #[.int .u64 0, .int .u64 0, .int .u64 0, .int .u64 0] 26)).alloc (.cells #[.int .u64 0, .int .u64 0, .int .u64 0, .int .u64 0] 26)).cell? ⟨w.heap.size + 4, 0, none⟩ = some (.int .u64 0) := by simp [go_sem]
  have hf0' : (((((w.alloc (.cells #[.int .u64 (e0 x), .int .u64 (e1 x), .int .u64 (e2 x), .int .u64 (e3 x)] 28)).alloc (.cells #[.int .u64 (e0 y), .int .u64 (e1 y), .int .u64 (e2 y), .int .u64 (e3 y)] 28)).alloc (.cells #[.int .u64 0, .int .u64 0, .int .u64 0, .int .u64 0] 28)).alloc (.cells #[.int .u64 0, .int .u64 0, .int .u64 0, .int .u64 0] 26)).alloc (.cells #[.int .u64 0, .int .u64 0, .int .u64 0, .int .u64 0] 26)).frozen? ⟨w.heap.size + 4, 0, none⟩ = false := by simp [go_sem]
  have hc1' : (((((w.alloc (.cells #[.int .u64 (e0 x), .int .u64 (e1 x), .int .u64 (e2 x), .int .u64 (e3 x)] 28)).alloc (.cells #[.int .u64 (e0 y), .int .u64 (e1 y), .int .u64 (e2 y), .int .u64 (e3 y)] 28)).alloc (.cells #[.int .u64 0, .int .u64 0, .int .u64 0, .int .u64 0] 28)).alloc (.cells #[.int .u64 0, .int .u64 0, .int .u64 0, .int .u64 0] 26)).alloc (.cells #[.int .u64 0, .int .u64 0, .int .u64 0, .int .u64 0] 26)).cell? ⟨w.heap.size + 4, 1, none⟩ = some (.int .u64 0) := by simp [go_sem]
  have hf1' : (((((w.alloc (.cells #[.int .u64 (e0 x), .int .u64 (e1 x), .int .u64 (e2 x), .int .u64 (e3 x)] 28)).alloc (.cells #[.int .u64 (e0 y), .int .u64 (e1 y), .int .u64 (e2 y), .int .u64 (e3 y)] 28)).alloc (.cells #[.int .u64 0, .int .u64 0, .int .u64 0, .int .u64 0] 28)).alloc (.cells #[.int .u64 0, .int .u64 0, .int .u64 0, .int .u64 0] 26)).alloc (.cells #[.int .u64 0, .int .u64 0, .int .u64 0, .int .u64 0] 26)).frozen? ⟨w.heap.size + 4, 1, none⟩ = false := by simp [go_sem]
  have hc2' : (((((w.alloc (.cells #[.int .u64 (e0 x), .int .u64 (e1 x), .int .u64 (e2 x), .int .u64 (e3 x)] 28)).alloc (.cells #[.int .u64 (e0 y), .int .u64 (e1 y), .int .u64 (e2 y), .int .u64 (e3 y)] 28)).alloc (.cells #[.int .u64 0, .int .u64 0, .int .u64 0, .int .u64 0] 28)).alloc (.cells #[.int .u64 0, .int .u64 0, .int .u64 0, .int .u64 0] 26)).alloc (.cells #[.int .u64 0, .int .u64 0, .int .u64 0, .int .u64 0] 26)).cell? ⟨w.heap.size + 4, 2, none⟩ = some (.int .u64 0) := by simp [go_sem]
  have hf2' : (((((w.alloc (.cells #[.int .u64 (e0 x), .int .u64 (e1 x), .int .u64 (e2 x), .int .u64 (e3 x)] 28)).alloc (.cells #[.int .u64 (e0 y), .int .u64 (e1 y), .int .u64 (e2 y), .int .u64 (e3 y)] 28)).alloc (.cells #[.int .u64 0, .int .u64 0, .int .u64 0, .int .u64 0] 28)).alloc (.cells #[.int .u64 0, .int .u64 0, .int .u64 0, .int .u64 0] 26)).alloc (.cells #[.int .u64 0, .int .u64 0, .int .u64 0, .int .u64 0] 26)).frozen? ⟨w.heap.size + 4, 2, none⟩ = false := by simp [go_sem]
  have hc3' : (((((w.alloc (.cells #[.int .u64 (e0 x), .int .u64 (e1 x), .int .u64 (e2 x), .int .u64 (e3 x)] 28)).alloc (.cells #[.int .u64 (e0 y), .int .u64 (e1 y), .int .u64 (e2 y), .int .u64 (e3 y)] 28)).alloc (.cells #[.int .u64 0, .int .u64 0, .int .u64 0, .int .u64 0] 28)).alloc (.cells #[.int .u64 0, .int .u64 0, .int .u64 0, .int .u64 0] 26)).alloc (.cells #[.int .u64 0, .int .u64 0, .int .u64 0, .int .u64 0] 26)).cell? ⟨w.heap.size + 4, 3, none⟩ = some (.int .u64 0) := by simp [go_sem]
  have hf3' : (((((w.alloc (.cells #[.int .u64 (e0 x), .int .u64 (e1 x), .int .u64 (e2 x), .int .u64 (e3 x)] 28)).alloc (.cells #[.int .u64 (e0 y), .int .u64 (e1 y), .int .u64 (e2 y), .int .u64 (e3 y)] 28)).alloc (.cells #[.int .u64 0, .int .u64 0, .int .u64 0, .int .u64 0] 28)).alloc (.cells #[.int .u64 0, .int .u64 0, .int .u64 0, .int .u64 0] 26)).alloc (.cells #[.int .u64 0, .int .u64 0, .int .u64 0, .int .u64 0] 26)).frozen? ⟨w.heap.size + 4, 3, none⟩ = false := by simp [go_sem]
  have HB' : Hid (Below w.heap.size w (((((w.alloc (.cells #[.int .u64 (e0 x), .int .u64 (e1 x), .int .u64 (e2 x), .int .u64 (e3 x)] 28)).alloc (.cells #[.int .u64 (e0 y), .int .u64 (e1 y), .int .u64 (e2 y), .int .u64 (e3 y)] 28)).alloc (.cells #[.int .u64 0, .int .u64 0, .int .u64 0, .int .u64 0] 28)).alloc (.cells #[.int .u64 0, .int .u64 0, .int .u64 0, .int .u64 0] 26)).alloc (.cells #[.int .u64 0, .int .u64 0, .int .u64 0, .int .u64 0] 26))) := bel5 _ _ _ _ _ _
  have hz' : w.heap.size + 4 < (((((w.alloc (.cells #[.int .u64 (e0 x), .int .u64 (e1 x), .int .u64 (e2 x), .int .u64 (e3 x)] 28)).alloc (.cells #[.int .u64 (e0 y), .int .u64 (e1 y), .int .u64 (e2 y), .int .u64 (e3 y)] 28)).alloc (.cells #[.int .u64 0, .int .u64 0, .int .u64 0, .int .u64 0] 28)).alloc (.cells #[.int .u64 0, .int .u64 0, .int .u64 0, .int .u64 0] 26)).alloc (.cells #[.int .u64 0, .int .u64 0, .int .u64 0, .int .u64 0] 26)).heap.size := by simp <;> omega
  generalize ((((w.alloc (.cells #[.int .u64 (e0 x), .int .u64 (e1 x), .int .u64 (e2 x), .int .u64 (e3 x)] 28)).alloc (.cells #[.int .u64 (e0 y), .int .u64 (e1 y), .int .u64 (e2 y), .int .u64 (e3 y)] 28)).alloc (.cells #[.int .u64 0, .int .u64 0, .int .u64 0, .int .u64 0] 28)).alloc (.cells #[.int .u64 0, .int .u64 0, .int .u64 0, .int .u64 0] 26)).alloc (.cells #[.int .u64 0, .int .u64 0, .int .u64 0, .int .u64 0] 26) = W0 at *
  have xc0 := xc0'
  have xc1 := xc1'
  have xc2 := xc2'
  have xc3 := xc3'
  have yc0 := yc0'
  have yc1 := yc1'
  have yc2 := yc2'
  have yc3 := yc3'
  have dc0 := dc0'
  have df0 := df0'
  have dc1 := dc1'
  have df1 := df1'
  have dc2 := dc2'
  have df2 := df2'
  have dc3 := dc3'
  have df3 := df3'
  have lc0 := lc0'
  have lf0 := lf0'
  have lc1 := lc1'
  have lf1 := lf1'
  have lc2 := lc2'
  have lf2 := lf2'
  have lc3 := lc3'
  have lf3 := lf3'
  have hc0 := hc0'
  have hf0 := hf0'
  have hc1 := hc1'
  have hf1 := hf1'
  have hc2 := hc2'
  have hf2 := hf2'
  have hc3 := hc3'
  have hf3 := hf3'
  have HB := HB'
  have hz := hz'
  clear xc0' xc1' xc2' xc3' yc0' yc1' yc2' yc3' dc0' df0' dc1' df1' dc2' df2' dc3' df3' lc0' lf0' lc1' lf1' lc2' lf2' lc3' lf3' hc0' hf0' hc1' hf1' hc2' hf2' hc3' hf3' HB' hz'
  go_wp2_with fail
  refine (row_any _ _ _ _ _ _ _ _ _ ⟨z, z, z, z⟩ x0 hyw _).mono ?_
  rintro e w0 ⟨l0, g00, g01, g02, g03, rfl, hl0, hg0, HE0, hb⟩
  replace HB : Hid (Below w.heap.size w w0) := HB.out.trans (hb.mono (by omega))
  have hz' : w.heap.size + 4 < w0.heap.size := by have := hb.size; omega
  have xc1' : w0.cell? ⟨w.heap.size, 1, none⟩ = some (.int .u64 (e1 x)) := cell_later hb (by simp [go_sem, xc1])
  have xc2' : w0.cell? ⟨w.heap.size, 2, none⟩ = some (.int .u64 (e2 x)) := cell_later hb (by simp [go_sem, xc2])
  have xc3' : w0.cell? ⟨w.heap.size, 3, none⟩ = some (.int .u64 (e3 x)) := cell_later hb (by simp [go_sem, xc3])
  have yc0' : w0.cell? ⟨w.heap.size + 1, 0, none⟩ = some (.int .u64 (e0 y)) := cell_later hb (by simp [go_sem, yc0])
  have yc1' : w0.cell? ⟨w.heap.size + 1, 1, none⟩ = some (.int .u64 (e1 y)) := cell_later hb (by simp [go_sem, yc1])
  have yc2' : w0.cell? ⟨w.heap.size + 1, 2, none⟩ = some (.int .u64 (e2 y)) := cell_later hb (by simp [go_sem, yc2])
  have yc3' : w0.cell? ⟨w.heap.size + 1, 3, none⟩ = some (.int .u64 (e3 y)) := cell_later hb (by simp [go_sem, yc3])
  have dc0' : w0.cell? ⟨w.heap.size + 2, 0, none⟩ = some (.int .u64 0) := cell_later hb (by simp [go_sem, dc0])
  have df0' : w0.frozen? ⟨w.heap.size + 2, 0, none⟩ = false := froz_later hb (by first | omega | (simp <;> omega)) (by simp [go_sem, df0])
  have dc1' : w0.cell? ⟨w.heap.size + 2, 1, none⟩ = some (.int .u64 0) := cell_later hb (by simp [go_sem, dc1])
  have df1' : w0.frozen? ⟨w.heap.size + 2, 1, none⟩ = false := froz_later hb (by first | omega | (simp <;> omega)) (by simp [go_sem, df1])
  have dc2' : w0.cell? ⟨w.heap.size + 2, 2, none⟩ = some (.int .u64 0) := cell_later hb (by simp [go_sem, dc2])
  have df2' : w0.frozen? ⟨w.heap.size + 2, 2, none⟩ = false := froz_later hb (by first | omega | (simp <;> omega)) (by simp [go_sem, df2])
  have dc3' : w0.cell? ⟨w.heap.size + 2, 3, none⟩ = some (.int .u64 0) := cell_later hb (by simp [go_sem, dc3])
  have df3' : w0.frozen? ⟨w.heap.size + 2, 3, none⟩ = false := froz_later hb (by first | omega | (simp <;> omega)) (by simp [go_sem, df3])
  have lc0' : w0.cell? ⟨w.heap.size + 3, 0, none⟩ = some (.int .u64 0) := cell_later hb (by simp [go_sem, lc0])
  have lf0' : w0.frozen? ⟨w.heap.size + 3, 0, none⟩ = false := froz_later hb (by first | omega | (simp <;> omega)) (by simp [go_sem, lf0])
  have lc1' : w0.cell? ⟨w.heap.size + 3, 1, none⟩ = some (.int .u64 0) := cell_later hb (by simp [go_sem, lc1])
  have lf1' : w0.frozen? ⟨w.heap.size + 3, 1, none⟩ = false := froz_later hb (by first | omega | (simp <;> omega)) (by simp [go_sem, lf1])
  have lc2' : w0.cell? ⟨w.heap.size + 3, 2, none⟩ = some (.int .u64 0) := cell_later hb (by simp [go_sem, lc2])
  have lf2' : w0.frozen? ⟨w.heap.size + 3, 2, none⟩ = false := froz_later hb (by first | omega | (simp <;> omega)) (by simp [go_sem, lf2])
  have lc3' : w0.cell? ⟨w.heap.size + 3, 3, none⟩ = some (.int .u64 0) := cell_later hb (by simp [go_sem, lc3])
  have lf3' : w0.frozen? ⟨w.heap.size + 3, 3, none⟩ = false := froz_later hb (by first | omega | (simp <;> omega)) (by simp [go_sem, lf3])
  have hc0' : w0.cell? ⟨w.heap.size + 4, 0, none⟩ = some (.int .u64 0) := cell_later hb (by simp [go_sem, hc0])
  have hf0' : w0.frozen? ⟨w.heap.size + 4, 0, none⟩ = false := froz_later hb (by first | omega | (simp <;> omega)) (by simp [go_sem, hf0])
  have hc1' : w0.cell? ⟨w.heap.size + 4, 1, none⟩ = some (.int .u64 0) := cell_later hb (by simp [go_sem, hc1])
  have hf1' : w0.frozen? ⟨w.heap.size + 4, 1, none⟩ = false := froz_later hb (by first | omega | (simp <;> omega)) (by simp [go_sem, hf1])
  have hc2' : w0.cell? ⟨w.heap.size + 4, 2, none⟩ = some (.int .u64 0) := cell_later hb (by simp [go_sem, hc2])
  have hf2' : w0.frozen? ⟨w.heap.size + 4, 2, none⟩ = false := froz_later hb (by first | omega | (simp <;> omega)) (by simp [go_sem, hf2])
  have hc3' : w0.cell? ⟨w.heap.size + 4, 3, none⟩ = some (.int .u64 0) := cell_later hb (by simp [go_sem, hc3])
  have hf3' : w0.frozen? ⟨w.heap.size + 4, 3, none⟩ = false := froz_later hb (by first | omega | (simp <;> omega)) (by simp [go_sem, hf3])
  clear xc1 xc2 xc3 yc0 yc1 yc2 yc3 dc0 df0 dc1 df1 dc2 df2 dc3 df3 lc0 lf0 lc1 lf1 lc2 lf2 lc3 lf3 hc0 hf0 hc1 hf1 hc2 hf2 hc3 hf3 hb hz xc0
  have xc1 := xc1'
  have xc2 := xc2'
  have xc3 := xc3'
  have yc0 := yc0'
  have yc1 := yc1'
  have yc2 := yc2'
  have yc3 := yc3'
  have dc0 := dc0'
  have df0 := df0'
  have dc1 := dc1'
  have df1 := df1'
  have dc2 := dc2'
  have df2 := df2'
  have dc3 := dc3'
  have df3 := df3'
  have lc0 := lc0'
  have lf0 := lf0'
  have lc1 := lc1'
  have lf1 := lf1'
  have lc2 := lc2'
  have lf2 := lf2'
  have lc3 := lc3'
  have lf3 := lf3'
  have hc0 := hc0'
  have hf0 := hf0'
  have hc1 := hc1'
  have hf1 := hf1'
  have hc2 := hc2'
  have hf2 := hf2'
  have hc3 := hc3'
  have hf3 := hf3'
  clear xc1' xc2' xc3' yc0' yc1' yc2' yc3' dc0' df0' dc1' df1' dc2' df2' dc3' df3' lc0' lf0' lc1' lf1' lc2' lf2' lc3' lf3' hc0' hf0' hc1' hf1' hc2' hf2' hc3' hf3'
  have hz := hz'
  clear hz'
  go_upto_region 3 with fail
  have xc1' : (((((w0.setCell ⟨w.heap.size + 3, 0, none⟩ (.int .u64 l0)).setCell ⟨w.heap.size + 4, 0, none⟩ (.int .u64 g00)).setCell ⟨w.heap.size + 4, 1, none⟩ (.int .u64 g01)).setCell ⟨w.heap.size + 4, 2, none⟩ (.int .u64 g02)).setCell ⟨w.heap.size + 4, 3, none⟩ (.int .u64 g03)).cell? ⟨w.heap.size, 1, none⟩ = some (.int .u64 (e1 x)) := by simp [go_sem, xc1]
  have xc2' : (((((w0.setCell ⟨w.heap.size + 3, 0, none⟩ (.int .u64 l0)).setCell ⟨w.heap.size + 4, 0, none⟩ (.int .u64 g00)).setCell ⟨w.heap.size + 4, 1, none⟩ (.int .u64 g01)).setCell ⟨w.heap.size + 4, 2, none⟩ (.int .u64 g02)).setCell ⟨w.heap.size + 4, 3, none⟩ (.int .u64 g03)).cell? ⟨w.heap.size, 2, none⟩ = some (.int .u64 (e2 x)) := by simp [go_sem, xc2]
  have xc3' : (((((w0.setCell ⟨w.heap.size + 3, 0, none⟩ (.int .u64 l0)).setCell ⟨w.heap.size + 4, 0, none⟩ (.int .u64 g00)).setCell ⟨w.heap.size + 4, 1, none⟩ (.int .u64 g01)).setCell ⟨w.heap.size + 4, 2, none⟩ (.int .u64 g02)).setCell ⟨w.heap.size + 4, 3, none⟩ (.int .u64 g03)).cell? ⟨w.heap.size, 3, none⟩ = some (.int .u64 (e3 x)) := by simp [go_sem, xc3]
  have yc0' : (((((w0.setCell ⟨w.heap.size + 3, 0, none⟩ (.int .u64 l0)).setCell ⟨w.heap.size + 4, 0, none⟩ (.int .u64 g00)).setCell ⟨w.heap.size + 4, 1, none⟩ (.int .u64 g01)).setCell ⟨w.heap.size + 4, 2, none⟩ (.int .u64 g02)).setCell ⟨w.heap.size + 4, 3, none⟩ (.int .u64 g03)).cell? ⟨w.heap.size + 1, 0, none⟩ = some (.int .u64 (e0 y)) := by simp [go_sem, yc0]
  have yc1' : (((((w0.setCell ⟨w.heap.size + 3, 0, none⟩ (.int .u64 l0)).setCell ⟨w.heap.size + 4, 0, none⟩ (.int .u64 g00)).setCell ⟨w.heap.size + 4, 1, none⟩ (.int .u64 g01)).setCell ⟨w.heap.size + 4, 2, none⟩ (.int .u64 g02)).setCell ⟨w.heap.size + 4, 3, none⟩ (.int .u64 g03)).cell? ⟨w.heap.size + 1, 1, none⟩ = some (.int .u64 (e1 y)) := by simp [go_sem, yc1]
  have yc2' : (((((w0.setCell ⟨w.heap.size + 3, 0, none⟩ (.int .u64 l0)).setCell ⟨w.heap.size + 4, 0, none⟩ (.int .u64 g00)).setCell ⟨w.heap.size + 4, 1, none⟩ (.int .u64 g01)).setCell ⟨w.heap.size + 4, 2, none⟩ (.int .u64 g02)).setCell ⟨w.heap.size + 4, 3, none⟩ (.int .u64 g03)).cell? ⟨w.heap.size + 1, 2, none⟩ = some (.int .u64 (e2 y)) := by simp [go_sem, yc2]
  have yc3' : (((((w0.setCell ⟨w.heap.size + 3, 0, none⟩ (.int .u64 l0)).setCell ⟨w.heap.size + 4, 0, none⟩ (.int .u64 g00)).setCell ⟨w.heap.size + 4, 1, none⟩ (.int .u64 g01)).setCell ⟨w.heap.size + 4, 2, none⟩ (.int .u64 g02)).setCell ⟨w.heap.size + 4, 3, none⟩ (.int .u64 g03)).cell? ⟨w.heap.size + 1, 3, none⟩ = some (.int .u64 (e3 y)) := by simp [go_sem, yc3]
  have dc0' : (((((w0.setCell ⟨w.heap.size + 3, 0, none⟩ (.int .u64 l0)).setCell ⟨w.heap.size + 4, 0, none⟩ (.int .u64 g00)).setCell ⟨w.heap.size + 4, 1, none⟩ (.int .u64 g01)).setCell ⟨w.heap.size + 4, 2, none⟩ (.int .u64 g02)).setCell ⟨w.heap.size + 4, 3, none⟩ (.int .u64 g03)).cell? ⟨w.heap.size + 2, 0, none⟩ = some (.int .u64 0) := by simp [go_sem, dc0]
  have df0' : (((((w0.setCell ⟨w.heap.size + 3, 0, none⟩ (.int .u64 l0)).setCell ⟨w.heap.size + 4, 0, none⟩ (.int .u64 g00)).setCell ⟨w.heap.size + 4, 1, none⟩ (.int .u64 g01)).setCell ⟨w.heap.size + 4, 2, none⟩ (.int .u64 g02)).setCell ⟨w.heap.size + 4, 3, none⟩ (.int .u64 g03)).frozen? ⟨w.heap.size + 2, 0, none⟩ = false := by simp [go_sem, df0]
  have dc1' : (((((w0.setCell ⟨w.heap.size + 3, 0, none⟩ (.int .u64 l0)).setCell ⟨w.heap.size + 4, 0, none⟩ (.int .u64 g00)).setCell ⟨w.heap.size + 4, 1, none⟩ (.int .u64 g01)).setCell ⟨w.heap.size + 4, 2, none⟩ (.int .u64 g02)).setCell ⟨w.heap.size + 4, 3, none⟩ (.int .u64 g03)).cell? ⟨w.heap.size + 2, 1, none⟩ = some (.int .u64 0) := by simp [go_sem, dc1]
  have df1' : (((((w0.setCell ⟨w.heap.size + 3, 0, none⟩ (.int .u64 l0)).setCell ⟨w.heap.size + 4, 0, none⟩ (.int .u64 g00)).setCell ⟨w.heap.size + 4, 1, none⟩ (.int .u64 g01)).setCell ⟨w.heap.size + 4, 2, none⟩ (.int .u64 g02)).setCell ⟨w.heap.size + 4, 3, none⟩ (.int .u64 g03)).frozen? ⟨w.heap.size + 2, 1, none⟩ = false := by simp [go_sem, df1]
  have dc2' : (((((w0.setCell ⟨w.heap.size + 3, 0, none⟩ (.int .u64 l0)).setCell ⟨w.heap.size + 4, 0, none⟩ (.int .u64 g00)).setCell ⟨w.heap.size + 4, 1, none⟩ (.int .u64 g01)).setCell ⟨w.heap.size + 4, 2, none⟩ (.int .u64 g02)).setCell ⟨w.heap.size + 4, 3, none⟩ (.int .u64 g03)).cell? ⟨w.heap.size + 2, 2, none⟩ = some (.int .u64 0) := by simp [go_sem, dc2]
  have df2' : (((((w0.setCell ⟨w.heap.size + 3, 0, none⟩ (.int .u64 l0)).setCell ⟨w.heap.size + 4, 0, none⟩ (.int .u64 g00)).setCell ⟨w.heap.size + 4, 1, none⟩ (.int .u64 g01)).setCell ⟨w.heap.size + 4, 2, none⟩ (.int .u64 g02)).setCell ⟨w.heap.size + 4, 3, none⟩ (.int .u64 g03)).frozen? ⟨w.heap.size + 2, 2, none⟩ = false := by simp [go_sem, df2]
  have dc3' : (((((w0.setCell ⟨w.heap.size + 3, 0, none⟩ (.int .u64 l0)).setCell ⟨w.heap.size + 4, 0, none⟩ (.int .u64 g00)).setCell ⟨w.heap.size + 4, 1, none⟩ (.int .u64 g01)).setCell ⟨w.heap.size + 4, 2, none⟩ (.int .u64 g02)).setCell ⟨w.heap.size + 4, 3, none⟩ (.int .u64 g03)).cell? ⟨w.heap.size + 2, 3, none⟩ = some (.int .u64 0) := by simp [go_sem, dc3]
  have df3' : (((((w0.setCell ⟨w.heap.size + 3, 0, none⟩ (.int .u64 l0)).setCell ⟨w.heap.size + 4, 0, none⟩ (.int .u64 g00)).setCell ⟨w.heap.size + 4, 1, none⟩ (.int .u64 g01)).setCell ⟨w.heap.size + 4, 2, none⟩ (.int .u64 g02)).setCell ⟨w.heap.size + 4, 3, none⟩ (.int .u64 g03)).frozen? ⟨w.heap.size + 2, 3, none⟩ = false := by simp [go_sem, df3]
  have lc0' : (((((w0.setCell ⟨w.heap.size + 3, 0, none⟩ (.int .u64 l0)).setCell ⟨w.heap.size + 4, 0, none⟩ (.int .u64 g00)).setCell ⟨w.heap.size + 4, 1, none⟩ (.int .u64 g01)).setCell ⟨w.heap.size + 4, 2, none⟩ (.int .u64 g02)).setCell ⟨w.heap.size + 4, 3, none⟩ (.int .u64 g03)).cell? ⟨w.heap.size + 3, 0, none⟩ = some (.int .u64 l0) := by simp [go_sem, lc0]
  have lf0' : (((((w0.setCell ⟨w.heap.size + 3, 0, none⟩ (.int .u64 l0)).setCell ⟨w.heap.size + 4, 0, none⟩ (.int .u64 g00)).setCell ⟨w.heap.size + 4, 1, none⟩ (.int .u64 g01)).setCell ⟨w.heap.size + 4, 2, none⟩ (.int .u64 g02)).setCell ⟨w.heap.size + 4, 3, none⟩ (.int .u64 g03)).frozen? ⟨w.heap.size + 3, 0, none⟩ = false := by simp [go_sem, lf0]
  have lc1' : (((((w0.setCell ⟨w.heap.size + 3, 0, none⟩ (.int .u64 l0)).setCell ⟨w.heap.size + 4, 0, none⟩ (.int .u64 g00)).setCell ⟨w.heap.size + 4, 1, none⟩ (.int .u64 g01)).setCell ⟨w.heap.size + 4, 2, none⟩ (.int .u64 g02)).setCell ⟨w.heap.size + 4, 3, none⟩ (.int .u64 g03)).cell? ⟨w.heap.size + 3, 1, none⟩ = some (.int .u64 0) := by simp [go_sem, lc1]
  have lf1' : (((((w0.setCell ⟨w.heap.size + 3, 0, none⟩ (.int .u64 l0)).setCell ⟨w.heap.size + 4, 0, none⟩ (.int .u64 g00)).setCell ⟨w.heap.size + 4, 1, none⟩ (.int .u64 g01)).setCell ⟨w.heap.size + 4, 2, none⟩ (.int .u64 g02)).setCell ⟨w.heap.size + 4, 3, none⟩ (.int .u64 g03)).frozen? ⟨w.heap.size + 3, 1, none⟩ = false := by simp [go_sem, lf1]
  have lc2' : (((((w0.setCell ⟨w.heap.size + 3, 0, none⟩ (.int .u64 l0)).setCell ⟨w.heap.size + 4, 0, none⟩ (.int .u64 g00)).setCell ⟨w.heap.size + 4, 1, none⟩ (.int .u64 g01)).setCell ⟨w.heap.size + 4, 2, none⟩ (.int .u64 g02)).setCell ⟨w.heap.size + 4, 3, none⟩ (.int .u64 g03)).cell? ⟨w.heap.size + 3, 2, none⟩ = some (.int .u64 0) := by simp [go_sem, lc2]
  have lf2' : (((((w0.setCell ⟨w.heap.size + 3, 0, none⟩ (.int .u64 l0)).setCell ⟨w.heap.size + 4, 0, none⟩ (.int .u64 g00)).setCell ⟨w.heap.size + 4, 1, none⟩ (.int .u64 g01)).setCell ⟨w.heap.size + 4, 2, none⟩ (.int .u64 g02)).setCell ⟨w.heap.size + 4, 3, none⟩ (.int .u64 g03)).frozen? ⟨w.heap.size + 3, 2, none⟩ = false := by simp [go_sem, lf2]
  have lc3' : (((((w0.setCell ⟨w.heap.size + 3, 0, none⟩ (.int .u64 l0)).setCell ⟨w.heap.size + 4, 0, none⟩ (.int .u64 g00)).setCell ⟨w.heap.size + 4, 1, none⟩ (.int .u64 g01)).setCell ⟨w.heap.size + 4, 2, none⟩ (.int .u64 g02)).setCell ⟨w.heap.size + 4, 3, none⟩ (.int .u64 g03)).cell? ⟨w.heap.size + 3, 3, none⟩ = some (.int .u64 0) := by simp [go_sem, lc3]
  have lf3' : (((((w0.setCell ⟨w.heap.size + 3, 0, none⟩ (.int .u64 l0)).setCell ⟨w.heap.size + 4, 0, none⟩ (.int .u64 g00)).setCell ⟨w.heap.size + 4, 1, none⟩ (.int .u64 g01)).setCell ⟨w.heap.size + 4, 2, none⟩ (.int .u64 g02)).setCell ⟨w.heap.size + 4, 3, none⟩ (.int .u64 g03)).frozen? ⟨w.heap.size + 3, 3, none⟩ = false := by simp [go_sem, lf3]
  have hc0' : (((((w0.setCell ⟨w.heap.size + 3, 0, none⟩ (.int .u64 l0)).setCell ⟨w.heap.size + 4, 0, none⟩ (.int .u64 g00)).setCell ⟨w.heap.size + 4, 1, none⟩ (.int .u64 g01)).setCell ⟨w.heap.size + 4, 2, none⟩ (.int .u64 g02)).setCell ⟨w.heap.size + 4, 3, none⟩ (.int .u64 g03)).cell? ⟨w.heap.size + 4, 0, none⟩ = some (.int .u64 g00) := by simp [go_sem, hc0]
  have hf0' : (((((w0.setCell ⟨w.heap.size + 3, 0, none⟩ (.int .u64 l0)).setCell ⟨w.heap.size + 4, 0, none⟩ (.int .u64 g00)).setCell ⟨w.heap.size + 4, 1, none⟩ (.int .u64 g01)).setCell ⟨w.heap.size + 4, 2, none⟩ (.int .u64 g02)).setCell ⟨w.heap.size + 4, 3, none⟩ (.int .u64 g03)).frozen? ⟨w.heap.size + 4, 0, none⟩ = false := by simp [go_sem, hf0]
  have hc1' : (((((w0.setCell ⟨w.heap.size + 3, 0, none⟩ (.int .u64 l0)).setCell ⟨w.heap.size + 4, 0, none⟩ (.int .u64 g00)).setCell ⟨w.heap.size + 4, 1, none⟩ (.int .u64 g01)).setCell ⟨w.heap.size + 4, 2, none⟩ (.int .u64 g02)).setCell ⟨w.heap.size + 4, 3, none⟩ (.int .u64 g03)).cell? ⟨w.heap.size + 4, 1, none⟩ = some (.int .u64 g01) := by simp [go_sem, hc1]
  have hf1' : (((((w0.setCell ⟨w.heap.size + 3, 0, none⟩ (.int .u64 l0)).setCell ⟨w.heap.size + 4, 0, none⟩ (.int .u64 g00)).setCell ⟨w.heap.size + 4, 1, none⟩ (.int .u64 g01)).setCell ⟨w.heap.size + 4, 2, none⟩ (.int .u64 g02)).setCell ⟨w.heap.size + 4, 3, none⟩ (.int .u64 g03)).frozen? ⟨w.heap.size + 4, 1, none⟩ = false := by simp [go_sem, hf1]
  have hc2' : (((((w0.setCell ⟨w.heap.size + 3, 0, none⟩ (.int .u64 l0)).setCell ⟨w.heap.size + 4, 0, none⟩ (.int .u64 g00)).setCell ⟨w.heap.size + 4, 1, none⟩ (.int .u64 g01)).setCell ⟨w.heap.size + 4, 2, none⟩ (.int .u64 g02)).setCell ⟨w.heap.size + 4, 3, none⟩ (.int .u64 g03)).cell? ⟨w.heap.size + 4, 2, none⟩ = some (.int .u64 g02) := by simp [go_sem, hc2]
  have hf2' : (((((w0.setCell ⟨w.heap.size + 3, 0, none⟩ (.int .u64 l0)).setCell ⟨w.heap.size + 4, 0, none⟩ (.int .u64 g00)).setCell ⟨w.heap.size + 4, 1, none⟩ (.int .u64 g01)).setCell ⟨w.heap.size + 4, 2, none⟩ (.int .u64 g02)).setCell ⟨w.heap.size + 4, 3, none⟩ (.int .u64 g03)).frozen? ⟨w.heap.size + 4, 2, none⟩ = false := by simp [go_sem, hf2]
  have hc3' : (((((w0.setCell ⟨w.heap.size + 3, 0, none⟩ (.int .u64 l0)).setCell ⟨w.heap.size + 4, 0, none⟩ (.int .u64 g00)).setCell ⟨w.heap.size + 4, 1, none⟩ (.int .u64 g01)).setCell ⟨w.heap.size + 4, 2, none⟩ (.int .u64 g02)).setCell ⟨w.heap.size + 4, 3, none⟩ (.int .u64 g03)).cell? ⟨w.heap.size + 4, 3, none⟩ = some (.int .u64 g03) := by simp [go_sem, hc3]
  have hf3' : (((((w0.setCell ⟨w.heap.size + 3, 0, none⟩ (.int .u64 l0)).setCell ⟨w.heap.size + 4, 0, none⟩ (.int .u64 g00)).setCell ⟨w.heap.size + 4, 1, none⟩ (.int .u64 g01)).setCell ⟨w.heap.size + 4, 2, none⟩ (.int .u64 g02)).setCell ⟨w.heap.size + 4, 3, none⟩ (.int .u64 g03)).frozen? ⟨w.heap.size + 4, 3, none⟩ = false := by simp [go_sem, hf3]
  have HB' : Hid (Below w.heap.size w (((((w0.setCell ⟨w.heap.size + 3, 0, none⟩ (.int .u64 l0)).setCell ⟨w.heap.size + 4, 0, none⟩ (.int .u64 g00)).setCell ⟨w.heap.size + 4, 1, none⟩ (.int .u64 g01)).setCell ⟨w.heap.size + 4, 2, none⟩ (.int .u64 g02)).setCell ⟨w.heap.size + 4, 3, none⟩ (.int .u64 g03))) := (((((HB.out.setCell (by first | exact Nat.le_refl _ | exact Nat.le_add_right _ _) _).setCell (by first | exact Nat.le_refl _ | exact Nat.le_add_right _ _) _).setCell (by first | exact Nat.le_refl _ | exact Nat.le_add_right _ _) _).setCell (by first | exact Nat.le_refl _ | exact Nat.le_add_right _ _) _).setCell (by first | exact Nat.le_refl _ | exact Nat.le_add_right _ _) _)
  have hz' : w.heap.size + 4 < (((((w0.setCell ⟨w.heap.size + 3, 0, none⟩ (.int .u64 l0)).setCell ⟨w.heap.size + 4, 0, none⟩ (.int .u64 g00)).setCell ⟨w.heap.size + 4, 1, none⟩ (.int .u64 g01)).setCell ⟨w.heap.size + 4, 2, none⟩ (.int .u64 g02)).setCell ⟨w.heap.size + 4, 3, none⟩ (.int .u64 g03)).heap.size := by simp; exact hz
  clear xc1 xc2 xc3 yc0 yc1 yc2 yc3 dc0 df0 dc1 df1 dc2 df2 dc3 df3 lc0 lf0 lc1 lf1 lc2 lf2 lc3 lf3 hc0 hf0 hc1 hf1 hc2 hf2 hc3 hf3 HB hz
  generalize ((((w0.setCell ⟨w.heap.size + 3, 0, none⟩ (.int .u64 l0)).setCell ⟨w.heap.size + 4, 0, none⟩ (.int .u64 g00)).setCell ⟨w.heap.size + 4, 1, none⟩ (.int .u64 g01)).setCell ⟨w.heap.size + 4, 2, none⟩ (.int .u64 g02)).setCell ⟨w.heap.size + 4, 3, none⟩ (.int .u64 g03) = W1 at *
  have xc1 := xc1'
  have xc2 := xc2'
  have xc3 := xc3'
  have yc0 := yc0'
  have yc1 := yc1'
  have yc2 := yc2'
  have yc3 := yc3'
  have dc0 := dc0'
  have df0 := df0'
  have dc1 := dc1'
  have df1 := df1'
  have dc2 := dc2'
  have df2 := df2'
  have dc3 := dc3'
  have df3 := df3'
  have lc0 := lc0'
  have lf0 := lf0'
  have lc1 := lc1'
  have lf1 := lf1'
  have lc2 := lc2'
  have lf2 := lf2'
  have lc3 := lc3'
  have lf3 := lf3'
  have hc0 := hc0'
  have hf0 := hf0'
  have hc1 := hc1'
  have hf1 := hf1'
  have hc2 := hc2'
  have hf2 := hf2'
  have hc3 := hc3'
  have hf3 := hf3'
  have HB := HB'
  have hz := hz'
  clear xc1' xc2' xc3' yc0' yc1' yc2' yc3' dc0' df0' dc1' df1' dc2' df2' dc3' df3' lc0' lf0' lc1' lf1' lc2' lf2' lc3' lf3' hc0' hf0' hc1' hf1' hc2' hf2' hc3' hf3' HB' hz'
  go_wp2_with fail
  refine (row_any _ _ _ _ _ _ _ _ _ hg0 x1 hyw _).mono ?_
  rintro e w1 ⟨l1, g10, g11, g12, g13, rfl, hl1, hg1, HE1, hb⟩
  replace HB : Hid (Below w.heap.size w w1) := HB.out.trans (hb.mono (by omega))
  have hz' : w.heap.size + 4 < w1.heap.size := by have := hb.size; omega
  have xc2' : w1.cell? ⟨w.heap.size, 2, none⟩ = some (.int .u64 (e2 x)) := cell_later hb (by simp [go_sem, xc2])
  have xc3' : w1.cell? ⟨w.heap.size, 3, none⟩ = some (.int .u64 (e3 x)) := cell_later hb (by simp [go_sem, xc3])
  have yc0' : w1.cell? ⟨w.heap.size + 1, 0, none⟩ = some (.int .u64 (e0 y)) := cell_later hb (by simp [go_sem, yc0])
  have yc1' : w1.cell? ⟨w.heap.size + 1, 1, none⟩ = some (.int .u64 (e1 y)) := cell_later hb (by simp [go_sem, yc1])
  have yc2' : w1.cell? ⟨w.heap.size + 1, 2, none⟩ = some (.int .u64 (e2 y)) := cell_later hb (by simp [go_sem, yc2])
  have yc3' : w1.cell? ⟨w.heap.size + 1, 3, none⟩ = some (.int .u64 (e3 y)) := cell_later hb (by simp [go_sem, yc3])
  have dc0' : w1.cell? ⟨w.heap.size + 2, 0, none⟩ = some (.int .u64 0) := cell_later hb (by simp [go_sem, dc0])
  have df0' : w1.frozen? ⟨w.heap.size + 2, 0, none⟩ = false := froz_later hb (by first | omega | (simp <;> omega)) (by simp [go_sem, df0])
  have dc1' : w1.cell? ⟨w.heap.size + 2, 1, none⟩ = some (.int .u64 0) := cell_later hb (by simp [go_sem, dc1])
  have df1' : w1.frozen? ⟨w.heap.size + 2, 1, none⟩ = false := froz_later hb (by first | omega | (simp <;> omega)) (by simp [go_sem, df1])
  have dc2' : w1.cell? ⟨w.heap.size + 2, 2, none⟩ = some (.int .u64 0) := cell_later hb (by simp [go_sem, dc2])
  have df2' : w1.frozen? ⟨w.heap.size + 2, 2, none⟩ = false := froz_later hb (by first | omega | (simp <;> omega)) (by simp [go_sem, df2])
  have dc3' : w1.cell? ⟨w.heap.size + 2, 3, none⟩ = some (.int .u64 0) := cell_later hb (by simp [go_sem, dc3])
  have df3' : w1.frozen? ⟨w.heap.size + 2, 3, none⟩ = false := froz_later hb (by first | omega | (simp <;> omega)) (by simp [go_sem, df3])
  have lc0' : w1.cell? ⟨w.heap.size + 3, 0, none⟩ = some (.int .u64 l0) := cell_later hb (by simp [go_sem, lc0])
  have lf0' : w1.frozen? ⟨w.heap.size + 3, 0, none⟩ = false := froz_later hb (by first | omega | (simp <;> omega)) (by simp [go_sem, lf0])
  have lc1' : w1.cell? ⟨w.heap.size + 3, 1, none⟩ = some (.int .u64 0) := cell_later hb (by simp [go_sem, lc1])
  have lf1' : w1.frozen? ⟨w.heap.size + 3, 1, none⟩ = false := froz_later hb (by first | omega | (simp <;> omega)) (by simp [go_sem, lf1])
  have lc2' : w1.cell? ⟨w.heap.size + 3, 2, none⟩ = some (.int .u64 0) := cell_later hb (by simp [go_sem, lc2])
  have lf2' : w1.frozen? ⟨w.heap.size + 3, 2, none⟩ = false := froz_later hb (by first | omega | (simp <;> omega)) (by simp [go_sem, lf2])
  have lc3' : w1.cell? ⟨w.heap.size + 3, 3, none⟩ = some (.int .u64 0) := cell_later hb (by simp [go_sem, lc3])
  have lf3' : w1.frozen? ⟨w.heap.size + 3, 3, none⟩ = false := froz_later hb (by first | omega | (simp <;> omega)) (by simp [go_sem, lf3])
  have hc0' : w1.cell? ⟨w.heap.size + 4, 0, none⟩ = some (.int .u64 g00) := cell_later hb (by simp [go_sem, hc0])
  have hf0' : w1.frozen? ⟨w.heap.size + 4, 0, none⟩ = false := froz_later hb (by first | omega | (simp <;> omega)) (by simp [go_sem, hf0])
  have hc1' : w1.cell? ⟨w.heap.size + 4, 1, none⟩ = some (.int .u64 g01) := cell_later hb (by simp [go_sem, hc1])
  have hf1' : w1.frozen? ⟨w.heap.size + 4, 1, none⟩ = false := froz_later hb (by first | omega | (simp <;> omega)) (by simp [go_sem, hf1])
  have hc2' : w1.cell? ⟨w.heap.size + 4, 2, none⟩ = some (.int .u64 g02) := cell_later hb (by simp [go_sem, hc2])
  have hf2' : w1.frozen? ⟨w.heap.size + 4, 2, none⟩ = false := froz_later hb (by first | omega | (simp <;> omega)) (by simp [go_sem, hf2])
  have hc3' : w1.cell? ⟨w.heap.size + 4, 3, none⟩ = some (.int .u64 g03) := cell_later hb (by simp [go_sem, hc3])
  have hf3' : w1.frozen? ⟨w.heap.size + 4, 3, none⟩ = false := froz_later hb (by first | omega | (simp <;> omega)) (by simp [go_sem, hf3])
  clear xc2 xc3 yc0 yc1 yc2 yc3 dc0 df0 dc1 df1 dc2 df2 dc3 df3 lc0 lf0 lc1 lf1 lc2 lf2 lc3 lf3 hc0 hf0 hc1 hf1 hc2 hf2 hc3 hf3 hb hz xc1
  have xc2 := xc2'
  have xc3 := xc3'
  have yc0 := yc0'
  have yc1 := yc1'
  have yc2 := yc2'
  have yc3 := yc3'
  have dc0 := dc0'
  have df0 := df0'
  have dc1 := dc1'
  have df1 := df1'
  have dc2 := dc2'
  have df2 := df2'
  have dc3 := dc3'
  have df3 := df3'
  have lc0 := lc0'
  have lf0 := lf0'
  have lc1 := lc1'
  have lf1 := lf1'
  have lc2 := lc2'
  have lf2 := lf2'
  have lc3 := lc3'
  have lf3 := lf3'
  have hc0 := hc0'
  have hf0 := hf0'
  have hc1 := hc1'
  have hf1 := hf1'
  have hc2 := hc2'
  have hf2 := hf2'
  have hc3 := hc3'
  have hf3 := hf3'
  clear xc2' xc3' yc0' yc1' yc2' yc3' dc0' df0' dc1' df1' dc2' df2' dc3' df3' lc0' lf0' lc1' lf1' lc2' lf2' lc3' lf3' hc0' hf0' hc1' hf1' hc2' hf2' hc3' hf3'
  have hz := hz'
  clear hz'
  go_upto_region 4 with fail
  have xc2' : (((((w1.setCell ⟨w.heap.size + 3, 1, none⟩ (.int .u64 l1)).setCell ⟨w.heap.size + 4, 0, none⟩ (.int .u64 g10)).setCell ⟨w.heap.size + 4, 1, none⟩ (.int .u64 g11)).setCell ⟨w.heap.size + 4, 2, none⟩ (.int .u64 g12)).setCell ⟨w.heap.size + 4, 3, none⟩ (.int .u64 g13)).cell? ⟨w.heap.size, 2, none⟩ = some (.int .u64 (e2 x)) := by simp [go_sem, xc2]
  have xc3' : (((((w1.setCell ⟨w.heap.size + 3, 1, none⟩ (.int .u64 l1)).setCell ⟨w.heap.size + 4, 0, none⟩ (.int .u64 g10)).setCell ⟨w.heap.size + 4, 1, none⟩ (.int .u64 g11)).setCell ⟨w.heap.size + 4, 2, none⟩ (.int .u64 g12)).setCell ⟨w.heap.size + 4, 3, none⟩ (.int .u64 g13)).cell? ⟨w.heap.size, 3, none⟩ = some (.int .u64 (e3 x)) := by simp [go_sem, xc3]
  have yc0' : (((((w1.setCell ⟨w.heap.size + 3, 1, none⟩ (.int .u64 l1)).setCell ⟨w.heap.size + 4, 0, none⟩ (.int .u64 g10)).setCell ⟨w.heap.size + 4, 1, none⟩ (.int .u64 g11)).setCell ⟨w.heap.size + 4, 2, none⟩ (.int .u64 g12)).setCell ⟨w.heap.size + 4, 3, none⟩ (.int .u64 g13)).cell? ⟨w.heap.size + 1, 0, none⟩ = some (.int .u64 (e0 y)) := by simp [go_sem, yc0]
  have yc1' : (((((w1.setCell ⟨w.heap.size + 3, 1, none⟩ (.int .u64 l1)).setCell ⟨w.heap.size + 4, 0, none⟩ (.int .u64 g10)).setCell ⟨w.heap.size + 4, 1, none⟩ (.int .u64 g11)).setCell ⟨w.heap.size + 4, 2, none⟩ (.int .u64 g12)).setCell ⟨w.heap.size + 4, 3, none⟩ (.int .u64 g13)).cell? ⟨w.heap.size + 1, 1, none⟩ = some (.int .u64 (e1 y)) := by simp [go_sem, yc1]
  have yc2' : (((((w1.setCell ⟨w.heap.size + 3, 1, none⟩ (.int .u64 l1)).setCell ⟨w.heap.size + 4, 0, none⟩ (.int .u64 g10)).setCell ⟨w.heap.size + 4, 1, none⟩ (.int .u64 g11)).setCell ⟨w.heap.size + 4, 2, none⟩ (.int .u64 g12)).setCell ⟨w.heap.size + 4, 3, none⟩ (.int .u64 g13)).cell? ⟨w.heap.size + 1, 2, none⟩ = some (.int .u64 (e2 y)) := by simp [go_sem, yc2]
  have yc3' : (((((w1.setCell ⟨w.heap.size + 3, 1, none⟩ (.int .u64 l1)).setCell ⟨w.heap.size + 4, 0, none⟩ (.int .u64 g10)).setCell ⟨w.heap.size + 4, 1, none⟩ (.int .u64 g11)).setCell ⟨w.heap.size + 4, 2, none⟩ (.int .u64 g12)).setCell ⟨w.heap.size + 4, 3, none⟩ (.int .u64 g13)).cell? ⟨w.heap.size + 1, 3, none⟩ = some (.int .u64 (e3 y)) := by simp [go_sem, yc3]
  have dc0' : (((((w1.setCell ⟨w.heap.size + 3, 1, none⟩ (.int .u64 l1)).setCell ⟨w.heap.size + 4, 0, none⟩ (.int .u64 g10)).setCell ⟨w.heap.size + 4, 1, none⟩ (.int .u64 g11)).setCell ⟨w.heap.size + 4, 2, none⟩ (.int .u64 g12)).setCell ⟨w.heap.size + 4, 3, none⟩ (.int .u64 g13)).cell? ⟨w.heap.size + 2, 0, none⟩ = some (.int .u64 0) := by simp [go_sem, dc0]
  have df0' : (((((w1.setCell ⟨w.heap.size + 3, 1, none⟩ (.int .u64 l1)).setCell ⟨w.heap.size + 4, 0, none⟩ (.int .u64 g10)).setCell ⟨w.heap.size + 4, 1, none⟩ (.int .u64 g11)).setCell ⟨w.heap.size + 4, 2, none⟩ (.int .u64 g12)).setCell ⟨w.heap.size + 4, 3, none⟩ (.int .u64 g13)).frozen? ⟨w.heap.size + 2, 0, none⟩ = false := by simp [go_sem, df0]
  have dc1' : (((((w1.setCell ⟨w.heap.size + 3, 1, none⟩ (.int .u64 l1)).setCell ⟨w.heap.size + 4, 0, none⟩ (.int .u64 g10)).setCell ⟨w.heap.size + 4, 1, none⟩ (.int .u64 g11)).setCell ⟨w.heap.size + 4, 2, none⟩ (.int .u64 g12)).setCell ⟨w.heap.size + 4, 3, none⟩ (.int .u64 g13)).cell? ⟨w.heap.size + 2, 1, none⟩ = some (.int .u64 0) := by simp [go_sem, dc1]
  have df1' : (((((w1.setCell ⟨w.heap.size + 3, 1, none⟩ (.int .u64 l1)).setCell ⟨w.heap.size + 4, 0, none⟩ (.int .u64 g10)).setCell ⟨w.heap.size + 4, 1, none⟩ (.int .u64 g11)).setCell ⟨w.heap.size + 4, 2, none⟩ (.int .u64 g12)).setCell ⟨w.heap.size + 4, 3, none⟩ (.int .u64 g13)).frozen? ⟨w.heap.size + 2, 1, none⟩ = false := by simp [go_sem, df1]
  have dc2' : (((((w1.setCell ⟨w.heap.size + 3, 1, none⟩ (.int .u64 l1)).setCell ⟨w.heap.size + 4, 0, none⟩ (.int .u64 g10)).setCell ⟨w.heap.size + 4, 1, none⟩ (.int .u64 g11)).setCell ⟨w.heap.size + 4, 2, none⟩ (.int .u64 g12)).setCell ⟨w.heap.size + 4, 3, none⟩ (.int .u64 g13)).cell? ⟨w.heap.size + 2, 2, none⟩ = some (.int .u64 0) := by simp [go_sem, dc2]
  have df2' : (((((w1.setCell ⟨w.heap.size + 3, 1, none⟩ (.int .u64 l1)).setCell ⟨w.heap.size + 4, 0, none⟩ (.int .u64 g10)).setCell ⟨w.heap.size + 4, 1, none⟩ (.int .u64 g11)).setCell ⟨w.heap.size + 4, 2, none⟩ (.int .u64 g12)).setCell ⟨w.heap.size + 4, 3, none⟩ (.int .u64 g13)).frozen? ⟨w.heap.size + 2, 2, none⟩ = false := by simp [go_sem, df2]
  have dc3' : (((((w1.setCell ⟨w.heap.size + 3, 1, none⟩ (.int .u64 l1)).setCell ⟨w.heap.size + 4, 0, none⟩ (.int .u64 g10)).setCell ⟨w.heap.size + 4, 1, none⟩ (.int .u64 g11)).setCell ⟨w.heap.size + 4, 2, none⟩ (.int .u64 g12)).setCell ⟨w.heap.size + 4, 3, none⟩ (.int .u64 g13)).cell? ⟨w.heap.size + 2, 3, none⟩ = some (.int .u64 0) := by simp [go_sem, dc3]
  have df3' : (((((w1.setCell ⟨w.heap.size + 3, 1, none⟩ (.int .u64 l1)).setCell ⟨w.heap.size + 4, 0, none⟩ (.int .u64 g10)).setCell ⟨w.heap.size + 4, 1, none⟩ (.int .u64 g11)).setCell ⟨w.heap.size + 4, 2, none⟩ (.int .u64 g12)).setCell ⟨w.heap.size + 4, 3, none⟩ (.int .u64 g13)).frozen? ⟨w.heap.size + 2, 3, none⟩ = false := by simp [go_sem, df3]
  have lc0' : (((((w1.setCell ⟨w.heap.size + 3, 1, none⟩ (.int .u64 l1)).setCell ⟨w.heap.size + 4, 0, none⟩ (.int .u64 g10)).setCell ⟨w.heap.size + 4, 1, none⟩ (.int .u64 g11)).setCell ⟨w.heap.size + 4, 2, none⟩ (.int .u64 g12)).setCell ⟨w.heap.size + 4, 3, none⟩ (.int .u64 g13)).cell? ⟨w.heap.size + 3, 0, none⟩ = some (.int .u64 l0) := by simp [go_sem, lc0]
  have lf0' : (((((w1.setCell ⟨w.heap.size + 3, 1, none⟩ (.int .u64 l1)).setCell ⟨w.heap.size + 4, 0, none⟩ (.int .u64 g10)).setCell ⟨w.heap.size + 4, 1, none⟩ (.int .u64 g11)).setCell ⟨w.heap.size + 4, 2, none⟩ (.int .u64 g12)).setCell ⟨w.heap.size + 4, 3, none⟩ (.int .u64 g13)).frozen? ⟨w.heap.size + 3, 0, none⟩ = false := by simp [go_sem, lf0]
  have lc1' : (((((w1.setCell ⟨w.heap.size + 3, 1, none⟩ (.int .u64 l1)).setCell ⟨w.heap.size + 4, 0, none⟩ (.int .u64 g10)).setCell ⟨w.heap.size + 4, 1, none⟩ (.int .u64 g11)).setCell ⟨w.heap.size + 4, 2, none⟩ (.int .u64 g12)).setCell ⟨w.heap.size + 4, 3, none⟩ (.int .u64 g13)).cell? ⟨w.heap.size + 3, 1, none⟩ = some (.int .u64 l1) := by simp [go_sem, lc1]
  have lf1' : (((((w1.setCell ⟨w.heap.size + 3, 1, none⟩ (.int .u64 l1)).setCell ⟨w.heap.size + 4, 0, none⟩ (.int .u64 g10)).setCell ⟨w.heap.size + 4, 1, none⟩ (.int .u64 g11)).setCell ⟨w.heap.size + 4, 2, none⟩ (.int .u64 g12)).setCell ⟨w.heap.size + 4, 3, none⟩ (.int .u64 g13)).frozen? ⟨w.heap.size + 3, 1, none⟩ = false := by simp [go_sem, lf1]
  have lc2' : (((((w1.setCell ⟨w.heap.size + 3, 1, none⟩ (.int .u64 l1)).setCell ⟨w.heap.size + 4, 0, none⟩ (.int .u64 g10)).setCell ⟨w.heap.size + 4, 1, none⟩ (.int .u64 g11)).setCell ⟨w.heap.size + 4, 2, none⟩ (.int .u64 g12)).setCell ⟨w.heap.size + 4, 3, none⟩ (.int .u64 g13)).cell? ⟨w.heap.size + 3, 2, none⟩ = some (.int .u64 0) := by simp [go_sem, lc2]
  have lf2' : (((((w1.setCell ⟨w.heap.size + 3, 1, none⟩ (.int .u64 l1)).setCell ⟨w.heap.size + 4, 0, none⟩ (.int .u64 g10)).setCell ⟨w.heap.size + 4, 1, none⟩ (.int .u64 g11)).setCell ⟨w.heap.size + 4, 2, none⟩ (.int .u64 g12)).setCell ⟨w.heap.size + 4, 3, none⟩ (.int .u64 g13)).frozen? ⟨w.heap.size + 3, 2, none⟩ = false := by simp [go_sem, lf2]
  have lc3' : (((((w1.setCell ⟨w.heap.size + 3, 1, none⟩ (.int .u64 l1)).setCell ⟨w.heap.size + 4, 0, none⟩ (.int .u64 g10)).setCell ⟨w.heap.size + 4, 1, none⟩ (.int .u64 g11)).setCell ⟨w.heap.size + 4, 2, none⟩ (.int .u64 g12)).setCell ⟨w.heap.size + 4, 3, none⟩ (.int .u64 g13)).cell? ⟨w.heap.size + 3, 3, none⟩ = some (.int .u64 0) := by simp [go_sem, lc3]
  have lf3' : (((((w1.setCell ⟨w.heap.size + 3, 1, none⟩ (.int .u64 l1)).setCell ⟨w.heap.size + 4, 0, none⟩ (.int .u64 g10)).setCell ⟨w.heap.size + 4, 1, none⟩ (.int .u64 g11)).setCell ⟨w.heap.size + 4, 2, none⟩ (.int .u64 g12)).setCell ⟨w.heap.size + 4, 3, none⟩ (.int .u64 g13)).frozen? ⟨w.heap.size + 3, 3, none⟩ = false := by simp [go_sem, lf3]
  have hc0' : (((((w1.setCell ⟨w.heap.size + 3, 1, none⟩ (.int .u64 l1)).setCell ⟨w.heap.size + 4, 0, none⟩ (.int .u64 g10)).setCell ⟨w.heap.size + 4, 1, none⟩ (.int .u64 g11)).setCell ⟨w.heap.size + 4, 2, none⟩ (.int .u64 g12)).setCell ⟨w.heap.size + 4, 3, none⟩ (.int .u64 g13)).cell? ⟨w.heap.size + 4, 0, none⟩ = some (.int .u64 g10) := by simp [go_sem, hc0]
  have hf0' : (((((w1.setCell ⟨w.heap.size + 3, 1, none⟩ (.int .u64 l1)).setCell ⟨w.heap.size + 4, 0, none⟩ (.int .u64 g10)).setCell ⟨w.heap.size + 4, 1, none⟩ (.int .u64 g11)).setCell ⟨w.heap.size + 4, 2, none⟩ (.int .u64 g12)).setCell ⟨w.heap.size + 4, 3, none⟩ (.int .u64 g13)).frozen? ⟨w.heap.size + 4, 0, none⟩ = false := by simp [go_sem, hf0]
  have hc1' : (((((w1.setCell ⟨w.heap.size + 3, 1, none⟩ (.int .u64 l1)).setCell ⟨w.heap.size + 4, 0, none⟩ (.int .u64 g10)).setCell ⟨w.heap.size + 4, 1, none⟩ (.int .u64 g11)).setCell ⟨w.heap.size + 4, 2, none⟩ (.int .u64 g12)).setCell ⟨w.heap.size + 4, 3, none⟩ (.int .u64 g13)).cell? ⟨w.heap.size + 4, 1, none⟩ = some (.int .u64 g11) := by simp [go_sem, hc1]
  have hf1' : (((((w1.setCell ⟨w.heap.size + 3, 1, none⟩ (.int .u64 l1)).setCell ⟨w.heap.size + 4, 0, none⟩ (.int .u64 g10)).setCell ⟨w.heap.size + 4, 1, none⟩ (.int .u64 g11)).setCell ⟨w.heap.size + 4, 2, none⟩ (.int .u64 g12)).setCell ⟨w.heap.size + 4, 3, none⟩ (.int .u64 g13)).frozen? ⟨w.heap.size + 4, 1, none⟩ = false := by simp [go_sem, hf1]
  have hc2' : (((((w1.setCell ⟨w.heap.size + 3, 1, none⟩ (.int .u64 l1)).setCell ⟨w.heap.size + 4, 0, none⟩ (.int .u64 g10)).setCell ⟨w.heap.size + 4, 1, none⟩ (.int .u64 g11)).setCell ⟨w.heap.size + 4, 2, none⟩ (.int .u64 g12)).setCell ⟨w.heap.size + 4, 3, none⟩ (.int .u64 g13)).cell? ⟨w.heap.size + 4, 2, none⟩ = some (.int .u64 g12) := by simp [go_sem, hc2]
  have hf2' : (((((w1.setCell ⟨w.heap.size + 3, 1, none⟩ (.int .u64 l1)).setCell ⟨w.heap.size + 4, 0, none⟩ (.int .u64 g10)).setCell ⟨w.heap.size + 4, 1, none⟩ (.int .u64 g11)).setCell ⟨w.heap.size + 4, 2, none⟩ (.int .u64 g12)).setCell ⟨w.heap.size + 4, 3, none⟩ (.int .u64 g13)).frozen? ⟨w.heap.size + 4, 2, none⟩ = false := by simp [go_sem, hf2]
  have hc3' : (((((w1.setCell ⟨w.heap.size + 3, 1, none⟩ (.int .u64 l1)).setCell ⟨w.heap.size + 4, 0, none⟩ (.int .u64 g10)).setCell ⟨w.heap.size + 4, 1, none⟩ (.int .u64 g11)).setCell ⟨w.heap.size + 4, 2, none⟩ (.int .u64 g12)).setCell ⟨w.heap.size + 4, 3, none⟩ (.int .u64 g13)).cell? ⟨w.heap.size + 4, 3, none⟩ = some (.int .u64 g13) := by simp [go_sem, hc3]
  have hf3' : (((((w1.setCell ⟨w.heap.size + 3, 1, none⟩ (.int .u64 l1)).setCell ⟨w.heap.size + 4, 0, none⟩ (.int .u64 g10)).setCell ⟨w.heap.size + 4, 1, none⟩ (.int .u64 g11)).setCell ⟨w.heap.size + 4, 2, none⟩ (.int .u64 g12)).setCell ⟨w.heap.size + 4, 3, none⟩ (.int .u64 g13)).frozen? ⟨w.heap.size + 4, 3, none⟩ = false := by simp [go_sem, hf3]
  have HB' : Hid (Below w.heap.size w (((((w1.setCell ⟨w.heap.size + 3, 1, none⟩ (.int .u64 l1)).setCell ⟨w.heap.size + 4, 0, none⟩ (.int .u64 g10)).setCell ⟨w.heap.size + 4, 1, none⟩ (.int .u64 g11)).setCell ⟨w.heap.size + 4, 2, none⟩ (.int .u64 g12)).setCell ⟨w.heap.size + 4, 3, none⟩ (.int .u64 g13))) := (((((HB.out.setCell (by first | exact Nat.le_refl _ | exact Nat.le_add_right _ _) _).setCell (by first | exact Nat.le_refl _ | exact Nat.le_add_right _ _) _).setCell (by first | exact Nat.le_refl _ | exact Nat.le_add_right _ _) _).setCell (by first | exact Nat.le_refl _ | exact Nat.le_add_right _ _) _).setCell (by first | exact Nat.le_refl _ | exact Nat.le_add_right _ _) _)
  have hz' : w.heap.size + 4 < (((((w1.setCell ⟨w.heap.size + 3, 1, none⟩ (.int .u64 l1)).setCell ⟨w.heap.size + 4, 0, none⟩ (.int .u64 g10)).setCell ⟨w.heap.size + 4, 1, none⟩ (.int .u64 g11)).setCell ⟨w.heap.size + 4, 2, none⟩ (.int .u64 g12)).setCell ⟨w.heap.size + 4, 3, none⟩ (.int .u64 g13)).heap.size := by simp; exact hz
  clear xc2 xc3 yc0 yc1 yc2 yc3 dc0 df0 dc1 df1 dc2 df2 dc3 df3 lc0 lf0 lc1 lf1 lc2 lf2 lc3 lf3 hc0 hf0 hc1 hf1 hc2 hf2 hc3 hf3 HB hz
  generalize ((((w1.setCell ⟨w.heap.size + 3, 1, none⟩ (.int .u64 l1)).setCell ⟨w.heap.size + 4, 0, none⟩ (.int .u64 g10)).setCell ⟨w.heap.size + 4, 1, none⟩ (.int .u64 g11)).setCell ⟨w.heap.size + 4, 2, none⟩ (.int .u64 g12)).setCell ⟨w.heap.size + 4, 3, none⟩ (.int .u64 g13) = W2 at *
  have xc2 := xc2'
  have xc3 := xc3'
  have yc0 := yc0'
  have yc1 := yc1'
  have yc2 := yc2'
  have yc3 := yc3'
  have dc0 := dc0'
  have df0 := df0'
  have dc1 := dc1'
  have df1 := df1'
  have dc2 := dc2'
  have df2 := df2'
  have dc3 := dc3'
  have df3 := df3'
  have lc0 := lc0'
  have lf0 := lf0'
  have lc1 := lc1'
  have lf1 := lf1'
  have lc2 := lc2'
  have lf2 := lf2'
  have lc3 := lc3'
  have lf3 := lf3'
  have hc0 := hc0'
  have hf0 := hf0'
  have hc1 := hc1'
  have hf1 := hf1'
  have hc2 := hc2'
  have hf2 := hf2'
  have hc3 := hc3'
  have hf3 := hf3'
  have HB := HB'
  have hz := hz'
  clear xc2' xc3' yc0' yc1' yc2' yc3' dc0' df0' dc1' df1' dc2' df2' dc3' df3' lc0' lf0' lc1' lf1' lc2' lf2' lc3' lf3' hc0' hf0' hc1' hf1' hc2' hf2' hc3' hf3' HB' hz'
  go_wp2_with fail
  refine (row_any _ _ _ _ _ _ _ _ _ hg1 x2 hyw _).mono ?_
  rintro e w2 ⟨l2, g20, g21, g22, g23, rfl, hl2, hg2, HE2, hb⟩
  replace HB : Hid (Below w.heap.size w w2) := HB.out.trans (hb.mono (by omega))
  have hz' : w.heap.size + 4 < w2.heap.size := by have := hb.size; omega
  have xc3' : w2.cell? ⟨w.heap.size, 3, none⟩ = some (.int .u64 (e3 x)) := cell_later hb (by simp [go_sem, xc3])
  have yc0' : w2.cell? ⟨w.heap.size + 1, 0, none⟩ = some (.int .u64 (e0 y)) := cell_later hb (by simp [go_sem, yc0])
  have yc1' : w2.cell? ⟨w.heap.size + 1, 1, none⟩ = some (.int .u64 (e1 y)) := cell_later hb (by simp [go_sem, yc1])
  have yc2' : w2.cell? ⟨w.heap.size + 1, 2, none⟩ = some (.int .u64 (e2 y)) := cell_later hb (by simp [go_sem, yc2])
  have yc3' : w2.cell? ⟨w.heap.size + 1, 3, none⟩ = some (.int .u64 (e3 y)) := cell_later hb (by simp [go_sem, yc3])
  have dc0' : w2.cell? ⟨w.heap.size + 2, 0, none⟩ = some (.int .u64 0) := cell_later hb (by simp [go_sem, dc0])
  have df0' : w2.frozen? ⟨w.heap.size + 2, 0, none⟩ = false := froz_later hb (by first | omega | (simp <;> omega)) (by simp [go_sem, df0])
  have dc1' : w2.cell? ⟨w.heap.size + 2, 1, none⟩ = some (.int .u64 0) := cell_later hb (by simp [go_sem, dc1])
  have df1' : w2.frozen? ⟨w.heap.size + 2, 1, none⟩ = false := froz_later hb (by first | omega | (simp <;> omega)) (by simp [go_sem, df1])
  have dc2' : w2.cell? ⟨w.heap.size + 2, 2, none⟩ = some (.int .u64 0) := cell_later hb (by simp [go_sem, dc2])
  have df2' : w2.frozen? ⟨w.heap.size + 2, 2, none⟩ = false := froz_later hb (by first | omega | (simp <;> omega)) (by simp [go_sem, df2])
  have dc3' : w2.cell? ⟨w.heap.size + 2, 3, none⟩ = some (.int .u64 0) := cell_later hb (by simp [go_sem, dc3])
  have df3' : w2.frozen? ⟨w.heap.size + 2, 3, none⟩ = false := froz_later hb (by first | omega | (simp <;> omega)) (by simp [go_sem, df3])
  have lc0' : w2.cell? ⟨w.heap.size + 3, 0, none⟩ = some (.int .u64 l0) := cell_later hb (by simp [go_sem, lc0])
  have lf0' : w2.frozen? ⟨w.heap.size + 3, 0, none⟩ = false := froz_later hb (by first | omega | (simp <;> omega)) (by simp [go_sem, lf0])
  have lc1' : w2.cell? ⟨w.heap.size + 3, 1, none⟩ = some (.int .u64 l1) := cell_later hb (by simp [go_sem, lc1])
  have lf1' : w2.frozen? ⟨w.heap.size + 3, 1, none⟩ = false := froz_later hb (by first | omega | (simp <;> omega)) (by simp [go_sem, lf1])
  have lc2' : w2.cell? ⟨w.heap.size + 3, 2, none⟩ = some (.int .u64 0) := cell_later hb (by simp [go_sem, lc2])
  have lf2' : w2.frozen? ⟨w.heap.size + 3, 2, none⟩ = false := froz_later hb (by first | omega | (simp <;> omega)) (by simp [go_sem, lf2])
  have lc3' : w2.cell? ⟨w.heap.size + 3, 3, none⟩ = some (.int .u64 0) := cell_later hb (by simp [go_sem, lc3])
  have lf3' : w2.frozen? ⟨w.heap.size + 3, 3, none⟩ = false := froz_later hb (by first | omega | (simp <;> omega)) (by simp [go_sem, lf3])
  have hc0' : w2.cell? ⟨w.heap.size + 4, 0, none⟩ = some (.int .u64 g10) := cell_later hb (by simp [go_sem, hc0])
  have hf0' : w2.frozen? ⟨w.heap.size + 4, 0, none⟩ = false := froz_later hb (by first | omega | (simp <;> omega)) (by simp [go_sem, hf0])
  have hc1' : w2.cell? ⟨w.heap.size + 4, 1, none⟩ = some (.int .u64 g11) := cell_later hb (by simp [go_sem, hc1])
  have hf1' : w2.frozen? ⟨w.heap.size + 4, 1, none⟩ = false := froz_later hb (by first | omega | (simp <;> omega)) (by simp [go_sem, hf1])
  have hc2' : w2.cell? ⟨w.heap.size + 4, 2, none⟩ = some (.int .u64 g12) := cell_later hb (by simp [go_sem, hc2])
  have hf2' : w2.frozen? ⟨w.heap.size + 4, 2, none⟩ = false := froz_later hb (by first | omega | (simp <;> omega)) (by simp [go_sem, hf2])
  have hc3' : w2.cell? ⟨w.heap.size + 4, 3, none⟩ = some (.int .u64 g13) := cell_later hb (by simp [go_sem, hc3])
  have hf3' : w2.frozen? ⟨w.heap.size + 4, 3, none⟩ = false := froz_later hb (by first | omega | (simp <;> omega)) (by simp [go_sem, hf3])
  clear xc3 yc0 yc1 yc2 yc3 dc0 df0 dc1 df1 dc2 df2 dc3 df3 lc0 lf0 lc1 lf1 lc2 lf2 lc3 lf3 hc0 hf0 hc1 hf1 hc2 hf2 hc3 hf3 hb hz xc2
  have xc3 := xc3'
  have yc0 := yc0'
  have yc1 := yc1'
  have yc2 := yc2'
  have yc3 := yc3'
  have dc0 := dc0'
  have df0 := df0'
  have dc1 := dc1'
  have df1 := df1'
  have dc2 := dc2'
  have df2 := df2'
  have dc3 := dc3'
  have df3 := df3'
  have lc0 := lc0'
  have lf0 := lf0'
  have lc1 := lc1'
  have lf1 := lf1'
  have lc2 := lc2'
  have lf2 := lf2'
  have lc3 := lc3'
  have lf3 := lf3'
  have hc0 := hc0'
  have hf0 := hf0'
  have hc1 := hc1'
  have hf1 := hf1'
  have hc2 := hc2'
  have hf2 := hf2'
  have hc3 := hc3'
  have hf3 := hf3'
  clear xc3' yc0' yc1' yc2' yc3' dc0' df0' dc1' df1' dc2' df2' dc3' df3' lc0' lf0' lc1' lf1' lc2' lf2' lc3' lf3' hc0' hf0' hc1' hf1' hc2' hf2' hc3' hf3'
  have hz := hz'
  clear hz'
  go_upto_region 5 with fail
  have xc3' : (((((w2.setCell ⟨w.heap.size + 3, 2, none⟩ (.int .u64 l2)).setCell ⟨w.heap.size + 4, 0, none⟩ (.int .u64 g20)).setCell ⟨w.heap.size + 4, 1, none⟩ (.int .u64 g21)).setCell ⟨w.heap.size + 4, 2, none⟩ (.int .u64 g22)).setCell ⟨w.heap.size + 4, 3, none⟩ (.int .u64 g23)).cell? ⟨w.heap.size, 3, none⟩ = some (.int .u64 (e3 x)) := by simp [go_sem, xc3]
  have yc0' : (((((w2.setCell ⟨w.heap.size + 3, 2, none⟩ (.int .u64 l2)).setCell ⟨w.heap.size + 4, 0, none⟩ (.int .u64 g20)).setCell ⟨w.heap.size + 4, 1, none⟩ (.int .u64 g21)).setCell ⟨w.heap.size + 4, 2, none⟩ (.int .u64 g22)).setCell ⟨w.heap.size + 4, 3, none⟩ (.int .u64 g23)).cell? ⟨w.heap.size + 1, 0, none⟩ = some (.int .u64 (e0 y)) := by simp [go_sem, yc0]
  have yc1' : (((((w2.setCell ⟨w.heap.size + 3, 2, none⟩ (.int .u64 l2)).setCell ⟨w.heap.size + 4, 0, none⟩ (.int .u64 g20)).setCell ⟨w.heap.size + 4, 1, none⟩ (.int .u64 g21)).setCell ⟨w.heap.size + 4, 2, none⟩ (.int .u64 g22)).setCell ⟨w.heap.size + 4, 3, none⟩ (.int .u64 g23)).cell? ⟨w.heap.size + 1, 1, none⟩ = some (.int .u64 (e1 y)) := by simp [go_sem, yc1]
  have yc2' : (((((w2.setCell ⟨w.heap.size + 3, 2, none⟩ (.int .u64 l2)).setCell ⟨w.heap.size + 4, 0, none⟩ (.int .u64 g20)).setCell ⟨w.heap.size + 4, 1, none⟩ (.int .u64 g21)).setCell ⟨w.heap.size + 4, 2, none⟩ (.int .u64 g22)).setCell ⟨w.heap.size + 4, 3, none⟩ (.int .u64 g23)).cell? ⟨w.heap.size + 1, 2, none⟩ = some (.int .u64 (e2 y)) := by simp [go_sem, yc2]
  have yc3' : (((((w2.setCell ⟨w.heap.size + 3, 2, none⟩ (.int .u64 l2)).setCell ⟨w.heap.size + 4, 0, none⟩ (.int .u64 g20)).setCell ⟨w.heap.size + 4, 1, none⟩ (.int .u64 g21)).setCell ⟨w.heap.size + 4, 2, none⟩ (.int .u64 g22)).setCell ⟨w.heap.size + 4, 3, none⟩ (.int .u64 g23)).cell? ⟨w.heap.size + 1, 3, none⟩ = some (.int .u64 (e3 y)) := by simp [go_sem, yc3]
  have dc0' : (((((w2.setCell ⟨w.heap.size + 3, 2, none⟩ (.int .u64 l2)).setCell ⟨w.heap.size + 4, 0, none⟩ (.int .u64 g20)).setCell ⟨w.heap.size + 4, 1, none⟩ (.int .u64 g21)).setCell ⟨w.heap.size + 4, 2, none⟩ (.int .u64 g22)).setCell ⟨w.heap.size + 4, 3, none⟩ (.int .u64 g23)).cell? ⟨w.heap.size + 2, 0, none⟩ = some (.int .u64 0) := by simp [go_sem, dc0]
  have df0' : (((((w2.setCell ⟨w.heap.size + 3, 2, none⟩ (.int .u64 l2)).setCell ⟨w.heap.size + 4, 0, none⟩ (.int .u64 g20)).setCell ⟨w.heap.size + 4, 1, none⟩ (.int .u64 g21)).setCell ⟨w.heap.size + 4, 2, none⟩ (.int .u64 g22)).setCell ⟨w.heap.size + 4, 3, none⟩ (.int .u64 g23)).frozen? ⟨w.heap.size + 2, 0, none⟩ = false := by simp [go_sem, df0]
  have dc1' : (((((w2.setCell ⟨w.heap.size + 3, 2, none⟩ (.int .u64 l2)).setCell ⟨w.heap.size + 4, 0, none⟩ (.int .u64 g20)).setCell ⟨w.heap.size + 4, 1, none⟩ (.int .u64 g21)).setCell ⟨w.heap.size + 4, 2, none⟩ (.int .u64 g22)).setCell ⟨w.heap.size + 4, 3, none⟩ (.int .u64 g23)).cell? ⟨w.heap.size + 2, 1, none⟩ = some (.int .u64 0) := by simp [go_sem, dc1]
  have df1' : (((((w2.setCell ⟨w.heap.size + 3, 2, none⟩ (.int .u64 l2)).setCell ⟨w.heap.size + 4, 0, none⟩ (.int .u64 g20)).setCell ⟨w.heap.size + 4, 1, none⟩ (.int .u64 g21)).setCell ⟨w.heap.size + 4, 2, none⟩ (.int .u64 g22)).setCell ⟨w.heap.size + 4, 3, none⟩ (.int .u64 g23)).frozen? ⟨w.heap.size + 2, 1, none⟩ = false := by simp [go_sem, df1]
  have dc2' : (((((w2.setCell ⟨w.heap.size + 3, 2, none⟩ (.int .u64 l2)).setCell ⟨w.heap.size + 4, 0, none⟩ (.int .u64 g20)).setCell ⟨w.heap.size + 4, 1, none⟩ (.int .u64 g21)).setCell ⟨w.heap.size + 4, 2, none⟩ (.int .u64 g22)).setCell ⟨w.heap.size + 4, 3, none⟩ (.int .u64 g23)).cell? ⟨w.heap.size + 2, 2, none⟩ = some (.int .u64 0) := by simp [go_sem, dc2]
  have df2' : (((((w2.setCell ⟨w.heap.size + 3, 2, none⟩ (.int .u64 l2)).setCell ⟨w.heap.size + 4, 0, none⟩ (.int .u64 g20)).setCell ⟨w.heap.size + 4, 1, none⟩ (.int .u64 g21)).setCell ⟨w.heap.size + 4, 2, none⟩ (.int .u64 g22)).setCell ⟨w.heap.size + 4, 3, none⟩ (.int .u64 g23)).frozen? ⟨w.heap.size + 2, 2, none⟩ = false := by simp [go_sem, df2]
  have dc3' : (((((w2.setCell ⟨w.heap.size + 3, 2, none⟩ (.int .u64 l2)).setCell ⟨w.heap.size + 4, 0, none⟩ (.int .u64 g20)).setCell ⟨w.heap.size + 4, 1, none⟩ (.int .u64 g21)).setCell ⟨w.heap.size + 4, 2, none⟩ (.int .u64 g22)).setCell ⟨w.heap.size + 4, 3, none⟩ (.int .u64 g23)).cell? ⟨w.heap.size + 2, 3, none⟩ = some (.int .u64 0) := by simp [go_sem, dc3]
  have df3' : (((((w2.setCell ⟨w.heap.size + 3, 2, none⟩ (.int .u64 l2)).setCell ⟨w.heap.size + 4, 0, none⟩ (.int .u64 g20)).setCell ⟨w.heap.size + 4, 1, none⟩ (.int .u64 g21)).setCell ⟨w.heap.size + 4, 2, none⟩ (.int .u64 g22)).setCell ⟨w.heap.size + 4, 3, none⟩ (.int .u64 g23)).frozen? ⟨w.heap.size + 2, 3, none⟩ = false := by simp [go_sem, df3]
  have lc0' : (((((w2.setCell ⟨w.heap.size + 3, 2, none⟩ (.int .u64 l2)).setCell ⟨w.heap.size + 4, 0, none⟩ (.int .u64 g20)).setCell ⟨w.heap.size + 4, 1, none⟩ (.int .u64 g21)).setCell ⟨w.heap.size + 4, 2, none⟩ (.int .u64 g22)).setCell ⟨w.heap.size + 4, 3, none⟩ (.int .u64 g23)).cell? ⟨w.heap.size + 3, 0, none⟩ = some (.int .u64 l0) := by simp [go_sem, lc0]
  have lf0' : (((((w2.setCell ⟨w.heap.size + 3, 2, none⟩ (.int .u64 l2)).setCell ⟨w.heap.size + 4, 0, none⟩ (.int .u64 g20)).setCell ⟨w.heap.size + 4, 1, none⟩ (.int .u64 g21)).setCell ⟨w.heap.size + 4, 2, none⟩ (.int .u64 g22)).setCell ⟨w.heap.size + 4, 3, none⟩ (.int .u64 g23)).frozen? ⟨w.heap.size + 3, 0, none⟩ = false := by simp [go_sem, lf0]
  have lc1' : (((((w2.setCell ⟨w.heap.size + 3, 2, none⟩ (.int .u64 l2)).setCell ⟨w.heap.size + 4, 0, none⟩ (.int .u64 g20)).setCell ⟨w.heap.size + 4, 1, none⟩ (.int .u64 g21)).setCell ⟨w.heap.size + 4, 2, none⟩ (.int .u64 g22)).setCell ⟨w.heap.size + 4, 3, none⟩ (.int .u64 g23)).cell? ⟨w.heap.size + 3, 1, none⟩ = some (.int .u64 l1) := by simp [go_sem, lc1]
  have lf1' : (((((w2.setCell ⟨w.heap.size + 3, 2, none⟩ (.int .u64 l2)).setCell ⟨w.heap.size + 4, 0, none⟩ (.int .u64 g20)).setCell ⟨w.heap.size + 4, 1, none⟩ (.int .u64 g21)).setCell ⟨w.heap.size + 4, 2, none⟩ (.int .u64 g22)).setCell ⟨w.heap.size + 4, 3, none⟩ (.int .u64 g23)).frozen? ⟨w.heap.size + 3, 1, none⟩ = false := by simp [go_sem, lf1]
  have lc2' : (((((w2.setCell ⟨w.heap.size + 3, 2, none⟩ (.int .u64 l2)).setCell ⟨w.heap.size + 4, 0, none⟩ (.int .u64 g20)).setCell ⟨w.heap.size + 4, 1, none⟩ (.int .u64 g21)).setCell ⟨w.heap.size + 4, 2, none⟩ (.int .u64 g22)).setCell ⟨w.heap.size + 4, 3, none⟩ (.int .u64 g23)).cell? ⟨w.heap.size + 3, 2, none⟩ = some (.int .u64 l2) := by simp [go_sem, lc2]
  have lf2' : (((((w2.setCell ⟨w.heap.size + 3, 2, none⟩ (.int .u64 l2)).setCell ⟨w.heap.size + 4, 0, none⟩ (.int .u64 g20)).setCell ⟨w.heap.size + 4, 1, none⟩ (.int .u64 g21)).setCell ⟨w.heap.size + 4, 2, none⟩ (.int .u64 g22)).setCell ⟨w.heap.size + 4, 3, none⟩ (.int .u64 g23)).frozen? ⟨w.heap.size + 3, 2, none⟩ = false := by simp [go_sem, lf2]
  have lc3' : (((((w2.setCell ⟨w.heap.size + 3, 2, none⟩ (.int .u64 l2)).setCell ⟨w.heap.size + 4, 0, none⟩ (.int .u64 g20)).setCell ⟨w.heap.size + 4, 1, none⟩ (.int .u64 g21)).setCell ⟨w.heap.size + 4, 2, none⟩ (.int .u64 g22)).setCell ⟨w.heap.size + 4, 3, none⟩ (.int .u64 g23)).cell? ⟨w.heap.size + 3, 3, none⟩ = some (.int .u64 0) := by simp [go_sem, lc3]
  have lf3' : (((((w2.setCell ⟨w.heap.size + 3, 2, none⟩ (.int .u64 l2)).setCell ⟨w.heap.size + 4, 0, none⟩ (.int .u64 g20)).setCell ⟨w.heap.size + 4, 1, none⟩ (.int .u64 g21)).setCell ⟨w.heap.size + 4, 2, none⟩ (.int .u64 g22)).setCell ⟨w.heap.size + 4, 3, none⟩ (.int .u64 g23)).frozen? ⟨w.heap.size + 3, 3, none⟩ = false := by simp [go_sem, lf3]
  have hc0' : (((((w2.setCell ⟨w.heap.size + 3, 2, none⟩ (.int .u64 l2)).setCell ⟨w.heap.size + 4, 0, none⟩ (.int .u64 g20)).setCell ⟨w.heap.size + 4, 1, none⟩ (.int .u64 g21)).setCell ⟨w.heap.size + 4, 2, none⟩ (.int .u64 g22)).setCell ⟨w.heap.size + 4, 3, none⟩ (.int .u64 g23)).cell? ⟨w.heap.size + 4, 0, none⟩ = some (.int .u64 g20) := by simp [go_sem, hc0]
  have hf0' : (((((w2.setCell ⟨w.heap.size + 3, 2, none⟩ (.int .u64 l2)).setCell ⟨w.heap.size + 4, 0, none⟩ (.int .u64 g20)).setCell ⟨w.heap.size + 4, 1, none⟩ (.int .u64 g21)).setCell ⟨w.heap.size + 4, 2, none⟩ (.int .u64 g22)).setCell ⟨w.heap.size + 4, 3, none⟩ (.int .u64 g23)).frozen? ⟨w.heap.size + 4, 0, none⟩ = false := by simp [go_sem, hf0]
  have hc1' : (((((w2.setCell ⟨w.heap.size + 3, 2, none⟩ (.int .u64 l2)).setCell ⟨w.heap.size + 4, 0, none⟩ (.int .u64 g20)).setCell ⟨w.heap.size + 4, 1, none⟩ (.int .u64 g21)).setCell ⟨w.heap.size + 4, 2, none⟩ (.int .u64 g22)).setCell ⟨w.heap.size + 4, 3, none⟩ (.int .u64 g23)).cell? ⟨w.heap.size + 4, 1, none⟩ = some (.int .u64 g21) := by simp [go_sem, hc1]
  have hf1' : (((((w2.setCell ⟨w.heap.size + 3, 2, none⟩ (.int .u64 l2)).setCell ⟨w.heap.size + 4, 0, none⟩ (.int .u64 g20)).setCell ⟨w.heap.size + 4, 1, none⟩ (.int .u64 g21)).setCell ⟨w.heap.size + 4, 2, none⟩ (.int .u64 g22)).setCell ⟨w.heap.size + 4, 3, none⟩ (.int .u64 g23)).frozen? ⟨w.heap.size + 4, 1, none⟩ = false := by simp [go_sem, hf1]
  have hc2' : (((((w2.setCell ⟨w.heap.size + 3, 2, none⟩ (.int .u64 l2)).setCell ⟨w.heap.size + 4, 0, none⟩ (.int .u64 g20)).setCell ⟨w.heap.size + 4, 1, none⟩ (.int .u64 g21)).setCell ⟨w.heap.size + 4, 2, none⟩ (.int .u64 g22)).setCell ⟨w.heap.size + 4, 3, none⟩ (.int .u64 g23)).cell? ⟨w.heap.size + 4, 2, none⟩ = some (.int .u64 g22) := by simp [go_sem, hc2]
  have hf2' : (((((w2.setCell ⟨w.heap.size + 3, 2, none⟩ (.int .u64 l2)).setCell ⟨w.heap.size + 4, 0, none⟩ (.int .u64 g20)).setCell ⟨w.heap.size + 4, 1, none⟩ (.int .u64 g21)).setCell ⟨w.heap.size + 4, 2, none⟩ (.int .u64 g22)).setCell ⟨w.heap.size + 4, 3, none⟩ (.int .u64 g23)).frozen? ⟨w.heap.size + 4, 2, none⟩ = false := by simp [go_sem, hf2]
  have hc3' : (((((w2.setCell ⟨w.heap.size + 3, 2, none⟩ (.int .u64 l2)).setCell ⟨w.heap.size + 4, 0, none⟩ (.int .u64 g20)).setCell ⟨w.heap.size + 4, 1, none⟩ (.int .u64 g21)).setCell ⟨w.heap.size + 4, 2, none⟩ (.int .u64 g22)).setCell ⟨w.heap.size + 4, 3, none⟩ (.int .u64 g23)).cell? ⟨w.heap.size + 4, 3, none⟩ = some (.int .u64 g23) := by simp [go_sem, hc3]
  have hf3' : (((((w2.setCell ⟨w.heap.size + 3, 2, none⟩ (.int .u64 l2)).setCell ⟨w.heap.size + 4, 0, none⟩ (.int .u64 g20)).setCell ⟨w.heap.size + 4, 1, none⟩ (.int .u64 g21)).setCell ⟨w.heap.size + 4, 2, none⟩ (.int .u64 g22)).setCell ⟨w.heap.size + 4, 3, none⟩ (.int .u64 g23)).frozen? ⟨w.heap.size + 4, 3, none⟩ = false := by simp [go_sem, hf3]
  have HB' : Hid (Below w.heap.size w (((((w2.setCell ⟨w.heap.size + 3, 2, none⟩ (.int .u64 l2)).setCell ⟨w.heap.size + 4, 0, none⟩ (.int .u64 g20)).setCell ⟨w.heap.size + 4, 1, none⟩ (.int .u64 g21)).setCell ⟨w.heap.size + 4, 2, none⟩ (.int .u64 g22)).setCell ⟨w.heap.size + 4, 3, none⟩ (.int .u64 g23))) := (((((HB.out.setCell (by first | exact Nat.le_refl _ | exact Nat.le_add_right _ _) _).setCell (by first | exact Nat.le_refl _ | exact Nat.le_add_right _ _) _).setCell (by first | exact Nat.le_refl _ | exact Nat.le_add_right _ _) _).setCell (by first | exact Nat.le_refl _ | exact Nat.le_add_right _ _) _).setCell (by first | exact Nat.le_refl _ | exact Nat.le_add_right _ _) _)
  have hz' : w.heap.size + 4 < (((((w2.setCell ⟨w.heap.size + 3, 2, none⟩ (.int .u64 l2)).setCell ⟨w.heap.size + 4, 0, none⟩ (.int .u64 g20)).setCell ⟨w.heap.size + 4, 1, none⟩ (.int .u64 g21)).setCell ⟨w.heap.size + 4, 2, none⟩ (.int .u64 g22)).setCell ⟨w.heap.size + 4, 3, none⟩ (.int .u64 g23)).heap.size := by simp; exact hz
  clear xc3 yc0 yc1 yc2 yc3 dc0 df0 dc1 df1 dc2 df2 dc3 df3 lc0 lf0 lc1 lf1 lc2 lf2 lc3 lf3 hc0 hf0 hc1 hf1 hc2 hf2 hc3 hf3 HB hz
  generalize ((((w2.setCell ⟨w.heap.size + 3, 2, none⟩ (.int .u64 l2)).setCell ⟨w.heap.size + 4, 0, none⟩ (.int .u64 g20)).setCell ⟨w.heap.size + 4, 1, none⟩ (.int .u64 g21)).setCell ⟨w.heap.size + 4, 2, none⟩ (.int .u64 g22)).setCell ⟨w.heap.size + 4, 3, none⟩ (.int .u64 g23) = W3 at *
  have xc3 := xc3'
  have yc0 := yc0'
  have yc1 := yc1'
  have yc2 := yc2'
  have yc3 := yc3'
  have dc0 := dc0'
  have df0 := df0'
  have dc1 := dc1'
  have df1 := df1'
  have dc2 := dc2'
  have df2 := df2'
  have dc3 := dc3'
  have df3 := df3'
  have lc0 := lc0'
  have lf0 := lf0'
  have lc1 := lc1'
  have lf1 := lf1'
  have lc2 := lc2'
  have lf2 := lf2'
  have lc3 := lc3'
  have lf3 := lf3'
  have hc0 := hc0'
  have hf0 := hf0'
  have hc1 := hc1'
  have hf1 := hf1'
  have hc2 := hc2'
  have hf2 := hf2'
  have hc3 := hc3'
  have hf3 := hf3'
  have HB := HB'
  have hz := hz'
  clear xc3' yc0' yc1' yc2' yc3' dc0' df0' dc1' df1' dc2' df2' dc3' df3' lc0' lf0' lc1' lf1' lc2' lf2' lc3' lf3' hc0' hf0' hc1' hf1' hc2' hf2' hc3' hf3' HB' hz'
  go_wp2_with fail
  refine (row_any _ _ _ _ _ _ _ _ _ hg2 x3 hyw _).mono ?_
  rintro e w3 ⟨l3, g30, g31, g32, g33, rfl, hl3, hg3, HE3, hb⟩
  replace HB : Hid (Below w.heap.size w w3) := HB.out.trans (hb.mono (by omega))
  have hz' : w.heap.size + 4 < w3.heap.size := by have := hb.size; omega
  have yc0' : w3.cell? ⟨w.heap.size + 1, 0, none⟩ = some (.int .u64 (e0 y)) := cell_later hb (by simp [go_sem, yc0])
  have yc1' : w3.cell? ⟨w.heap.size + 1, 1, none⟩ = some (.int .u64 (e1 y)) := cell_later hb (by simp [go_sem, yc1])
  have yc2' : w3.cell? ⟨w.heap.size + 1, 2, none⟩ = some (.int .u64 (e2 y)) := cell_later hb (by simp [go_sem, yc2])
  have yc3' : w3.cell? ⟨w.heap.size + 1, 3, none⟩ = some (.int .u64 (e3 y)) := cell_later hb (by simp [go_sem, yc3])
  have dc0' : w3.cell? ⟨w.heap.size + 2, 0, none⟩ = some (.int .u64 0) := cell_later hb (by simp [go_sem, dc0])
  have df0' : w3.frozen? ⟨w.heap.size + 2, 0, none⟩ = false := froz_later hb (by first | omega | (simp <;> omega)) (by simp [go_sem, df0])
  have dc1' : w3.cell? ⟨w.heap.size + 2, 1, none⟩ = some (.int .u64 0) := cell_later hb (by simp [go_sem, dc1])
  have df1' : w3.frozen? ⟨w.heap.size + 2, 1, none⟩ = false := froz_later hb (by first | omega | (simp <;> omega)) (by simp [go_sem, df1])
  have dc2' : w3.cell? ⟨w.heap.size + 2, 2, none⟩ = some (.int .u64 0) := cell_later hb (by simp [go_sem, dc2])
  have df2' : w3.frozen? ⟨w.heap.size + 2, 2, none⟩ = false := froz_later hb (by first | omega | (simp <;> omega)) (by simp [go_sem, df2])
  have dc3' : w3.cell? ⟨w.heap.size + 2, 3, none⟩ = some (.int .u64 0) := cell_later hb (by simp [go_sem, dc3])
  have df3' : w3.frozen? ⟨w.heap.size + 2, 3, none⟩ = false := froz_later hb (by first | omega | (simp <;> omega)) (by simp [go_sem, df3])
  have lc0' : w3.cell? ⟨w.heap.size + 3, 0, none⟩ = some (.int .u64 l0) := cell_later hb (by simp [go_sem, lc0])
  have lf0' : w3.frozen? ⟨w.heap.size + 3, 0, none⟩ = false := froz_later hb (by first | omega | (simp <;> omega)) (by simp [go_sem, lf0])
  have lc1' : w3.cell? ⟨w.heap.size + 3, 1, none⟩ = some (.int .u64 l1) := cell_later hb (by simp [go_sem, lc1])
  have lf1' : w3.frozen? ⟨w.heap.size + 3, 1, none⟩ = false := froz_later hb (by first | omega | (simp <;> omega)) (by simp [go_sem, lf1])
  have lc2' : w3.cell? ⟨w.heap.size + 3, 2, none⟩ = some (.int .u64 l2) := cell_later hb (by simp [go_sem, lc2])
  have lf2' : w3.frozen? ⟨w.heap.size + 3, 2, none⟩ = false := froz_later hb (by first | omega | (simp <;> omega)) (by simp [go_sem, lf2])
  have lc3' : w3.cell? ⟨w.heap.size + 3, 3, none⟩ = some (.int .u64 0) := cell_later hb (by simp [go_sem, lc3])
  have lf3' : w3.frozen? ⟨w.heap.size + 3, 3, none⟩ = false := froz_later hb (by first | omega | (simp <;> omega)) (by simp [go_sem, lf3])
  have hc0' : w3.cell? ⟨w.heap.size + 4, 0, none⟩ = some (.int .u64 g20) := cell_later hb (by simp [go_sem, hc0])
  have hf0' : w3.frozen? ⟨w.heap.size + 4, 0, none⟩ = false := froz_later hb (by first | omega | (simp <;> omega)) (by simp [go_sem, hf0])
  have hc1' : w3.cell? ⟨w.heap.size + 4, 1, none⟩ = some (.int .u64 g21) := cell_later hb (by simp [go_sem, hc1])
  have hf1' : w3.frozen? ⟨w.heap.size + 4, 1, none⟩ = false := froz_later hb (by first | omega | (simp <;> omega)) (by simp [go_sem, hf1])
  have hc2' : w3.cell? ⟨w.heap.size + 4, 2, none⟩ = some (.int .u64 g22) := cell_later hb (by simp [go_sem, hc2])
  have hf2' : w3.frozen? ⟨w.heap.size + 4, 2, none⟩ = false := froz_later hb (by first | omega | (simp <;> omega)) (by simp [go_sem, hf2])
  have hc3' : w3.cell? ⟨w.heap.size + 4, 3, none⟩ = some (.int .u64 g23) := cell_later hb (by simp [go_sem, hc3])
  have hf3' : w3.frozen? ⟨w.heap.size + 4, 3, none⟩ = false := froz_later hb (by first | omega | (simp <;> omega)) (by simp [go_sem, hf3])
  clear yc0 yc1 yc2 yc3 dc0 df0 dc1 df1 dc2 df2 dc3 df3 lc0 lf0 lc1 lf1 lc2 lf2 lc3 lf3 hc0 hf0 hc1 hf1 hc2 hf2 hc3 hf3 hb hz xc3
  have yc0 := yc0'
  have yc1 := yc1'
  have yc2 := yc2'
  have yc3 := yc3'
  have dc0 := dc0'
  have df0 := df0'
  have dc1 := dc1'
  have df1 := df1'
  have dc2 := dc2'
  have df2 := df2'
  have dc3 := dc3'
  have df3 := df3'
  have lc0 := lc0'
  have lf0 := lf0'
  have lc1 := lc1'
  have lf1 := lf1'
  have lc2 := lc2'
  have lf2 := lf2'
  have lc3 := lc3'
  have lf3 := lf3'
  have hc0 := hc0'
  have hf0 := hf0'
  have hc1 := hc1'
  have hf1 := hf1'
  have hc2 := hc2'
  have hf2 := hf2'
  have hc3 := hc3'
  have hf3 := hf3'
  clear yc0' yc1' yc2' yc3' dc0' df0' dc1' df1' dc2' df2' dc3' df3' lc0' lf0' lc1' lf1' lc2' lf2' lc3' lf3' hc0' hf0' hc1' hf1' hc2' hf2' hc3' hf3'
  have hz := hz'
  clear hz'
  go_upto_region 6 with fail
  have yc0' : (((((w3.setCell ⟨w.heap.size + 3, 3, none⟩ (.int .u64 l3)).setCell ⟨w.heap.size + 4, 0, none⟩ (.int .u64 g30)).setCell ⟨w.heap.size + 4, 1, none⟩ (.int .u64 g31)).setCell ⟨w.heap.size + 4, 2, none⟩ (.int .u64 g32)).setCell ⟨w.heap.size + 4, 3, none⟩ (.int .u64 g33)).cell? ⟨w.heap.size + 1, 0, none⟩ = some (.int .u64 (e0 y)) := by simp [go_sem, yc0]
  have yc1' : (((((w3.setCell ⟨w.heap.size + 3, 3, none⟩ (.int .u64 l3)).setCell ⟨w.heap.size + 4, 0, none⟩ (.int .u64 g30)).setCell ⟨w.heap.size + 4, 1, none⟩ (.int .u64 g31)).setCell ⟨w.heap.size + 4, 2, none⟩ (.int .u64 g32)).setCell ⟨w.heap.size + 4, 3, none⟩ (.int .u64 g33)).cell? ⟨w.heap.size + 1, 1, none⟩ = some (.int .u64 (e1 y)) := by simp [go_sem, yc1]
  have yc2' : (((((w3.setCell ⟨w.heap.size + 3, 3, none⟩ (.int .u64 l3)).setCell ⟨w.heap.size + 4, 0, none⟩ (.int .u64 g30)).setCell ⟨w.heap.size + 4, 1, none⟩ (.int .u64 g31)).setCell ⟨w.heap.size + 4, 2, none⟩ (.int .u64 g32)).setCell ⟨w.heap.size + 4, 3, none⟩ (.int .u64 g33)).cell? ⟨w.heap.size + 1, 2, none⟩ = some (.int .u64 (e2 y)) := by simp [go_sem, yc2]
  have yc3' : (((((w3.setCell ⟨w.heap.size + 3, 3, none⟩ (.int .u64 l3)).setCell ⟨w.heap.size + 4, 0, none⟩ (.int .u64 g30)).setCell ⟨w.heap.size + 4, 1, none⟩ (.int .u64 g31)).setCell ⟨w.heap.size + 4, 2, none⟩ (.int .u64 g32)).setCell ⟨w.heap.size + 4, 3, none⟩ (.int .u64 g33)).cell? ⟨w.heap.size + 1, 3, none⟩ = some (.int .u64 (e3 y)) := by simp [go_sem, yc3]
  have dc0' : (((((w3.setCell ⟨w.heap.size + 3, 3, none⟩ (.int .u64 l3)).setCell ⟨w.heap.size + 4, 0, none⟩ (.int .u64 g30)).setCell ⟨w.heap.size + 4, 1, none⟩ (.int .u64 g31)).setCell ⟨w.heap.size + 4, 2, none⟩ (.int .u64 g32)).setCell ⟨w.heap.size + 4, 3, none⟩ (.int .u64 g33)).cell? ⟨w.heap.size + 2, 0, none⟩ = some (.int .u64 0) := by simp [go_sem, dc0]
  have df0' : (((((w3.setCell ⟨w.heap.size + 3, 3, none⟩ (.int .u64 l3)).setCell ⟨w.heap.size + 4, 0, none⟩ (.int .u64 g30)).setCell ⟨w.heap.size + 4, 1, none⟩ (.int .u64 g31)).setCell ⟨w.heap.size + 4, 2, none⟩ (.int .u64 g32)).setCell ⟨w.heap.size + 4, 3, none⟩ (.int .u64 g33)).frozen? ⟨w.heap.size + 2, 0, none⟩ = false := by simp [go_sem, df0]
  have dc1' : (((((w3.setCell ⟨w.heap.size + 3, 3, none⟩ (.int .u64 l3)).setCell ⟨w.heap.size + 4, 0, none⟩ (.int .u64 g30)).setCell ⟨w.heap.size + 4, 1, none⟩ (.int .u64 g31)).setCell ⟨w.heap.size + 4, 2, none⟩ (.int .u64 g32)).setCell ⟨w.heap.size + 4, 3, none⟩ (.int .u64 g33)).cell? ⟨w.heap.size + 2, 1, none⟩ = some (.int .u64 0) := by simp [go_sem, dc1]
  have df1' : (((((w3.setCell ⟨w.heap.size + 3, 3, none⟩ (.int .u64 l3)).setCell ⟨w.heap.size + 4, 0, none⟩ (.int .u64 g30)).setCell ⟨w.heap.size + 4, 1, none⟩ (.int .u64 g31)).setCell ⟨w.heap.size + 4, 2, none⟩ (.int .u64 g32)).setCell ⟨w.heap.size + 4, 3, none⟩ (.int .u64 g33)).frozen? ⟨w.heap.size + 2, 1, none⟩ = false := by simp [go_sem, df1]
  have dc2' : (((((w3.setCell ⟨w.heap.size + 3, 3, none⟩ (.int .u64 l3)).setCell ⟨w.heap.size + 4, 0, none⟩ (.int .u64 g30)).setCell ⟨w.heap.size + 4, 1, none⟩ (.int .u64 g31)).setCell ⟨w.heap.size + 4, 2, none⟩ (.int .u64 g32)).setCell ⟨w.heap.size + 4, 3, none⟩ (.int .u64 g33)).cell? ⟨w.heap.size + 2, 2, none⟩ = some (.int .u64 0) := by simp [go_sem, dc2]
  have df2' : (((((w3.setCell ⟨w.heap.size + 3, 3, none⟩ (.int .u64 l3)).setCell ⟨w.heap.size + 4, 0, none⟩ (.int .u64 g30)).setCell ⟨w.heap.size + 4, 1, none⟩ (.int .u64 g31)).setCell ⟨w.heap.size + 4, 2, none⟩ (.int .u64 g32)).setCell ⟨w.heap.size + 4, 3, none⟩ (.int .u64 g33)).frozen? ⟨w.heap.size + 2, 2, none⟩ = false := by simp [go_sem, df2]
  have dc3' : (((((w3.setCell ⟨w.heap.size + 3, 3, none⟩ (.int .u64 l3)).setCell ⟨w.heap.size + 4, 0, none⟩ (.int .u64 g30)).setCell ⟨w.heap.size + 4, 1, none⟩ (.int .u64 g31)).setCell ⟨w.heap.size + 4, 2, none⟩ (.int .u64 g32)).setCell ⟨w.heap.size + 4, 3, none⟩ (.int .u64 g33)).cell? ⟨w.heap.size + 2, 3, none⟩ = some (.int .u64 0) := by simp [go_sem, dc3]
  have df3' : (((((w3.setCell ⟨w.heap.size + 3, 3, none⟩ (.int .u64 l3)).setCell ⟨w.heap.size + 4, 0, none⟩ (.int .u64 g30)).setCell ⟨w.heap.size + 4, 1, none⟩ (.int .u64 g31)).setCell ⟨w.heap.size + 4, 2, none⟩ (.int .u64 g32)).setCell ⟨w.heap.size + 4, 3, none⟩ (.int .u64 g33)).frozen? ⟨w.heap.size + 2, 3, none⟩ = false := by simp [go_sem, df3]
  have lc0' : (((((w3.setCell ⟨w.heap.size + 3, 3, none⟩ (.int .u64 l3)).setCell ⟨w.heap.size + 4, 0, none⟩ (.int .u64 g30)).setCell ⟨w.heap.size + 4, 1, none⟩ (.int .u64 g31)).setCell ⟨w.heap.size + 4, 2, none⟩ (.int .u64 g32)).setCell ⟨w.heap.size + 4, 3, none⟩ (.int .u64 g33)).cell? ⟨w.heap.size + 3, 0, none⟩ = some (.int .u64 l0) := by simp [go_sem, lc0]
  have lf0' : (((((w3.setCell ⟨w.heap.size + 3, 3, none⟩ (.int .u64 l3)).setCell ⟨w.heap.size + 4, 0, none⟩ (.int .u64 g30)).setCell ⟨w.heap.size + 4, 1, none⟩ (.int .u64 g31)).setCell ⟨w.heap.size + 4, 2, none⟩ (.int .u64 g32)).setCell ⟨w.heap.size + 4, 3, none⟩ (.int .u64 g33)).frozen? ⟨w.heap.size + 3, 0, none⟩ = false := by simp [go_sem, lf0]
  have lc1' : (((((w3.setCell ⟨w.heap.size + 3, 3, none⟩ (.int .u64 l3)).setCell ⟨w.heap.size + 4, 0, none⟩ (.int .u64 g30)).setCell ⟨w.heap.size + 4, 1, none⟩ (.int .u64 g31)).setCell ⟨w.heap.size + 4, 2, none⟩ (.int .u64 g32)).setCell ⟨w.heap.size + 4, 3, none⟩ (.int .u64 g33)).cell? ⟨w.heap.size + 3, 1, none⟩ = some (.int .u64 l1) := by simp [go_sem, lc1]
  have lf1' : (((((w3.setCell ⟨w.heap.size + 3, 3, none⟩ (.int .u64 l3)).setCell ⟨w.heap.size + 4, 0, none⟩ (.int .u64 g30)).setCell ⟨w.heap.size + 4, 1, none⟩ (.int .u64 g31)).setCell ⟨w.heap.size + 4, 2, none⟩ (.int .u64 g32)).setCell ⟨w.heap.size + 4, 3, none⟩ (.int .u64 g33)).frozen? ⟨w.heap.size + 3, 1, none⟩ = false := by simp [go_sem, lf1]
  have lc2' : (((((w3.setCell ⟨w.heap.size + 3, 3, none⟩ (.int .u64 l3)).setCell ⟨w.heap.size + 4, 0, none⟩ (.int .u64 g30)).setCell ⟨w.heap.size + 4, 1, none⟩ (.int .u64 g31)).setCell ⟨w.heap.size + 4, 2, none⟩ (.int .u64 g32)).setCell ⟨w.heap.size + 4, 3, none⟩ (.int .u64 g33)).cell? ⟨w.heap.size + 3, 2, none⟩ = some (.int .u64 l2) := by simp [go_sem, lc2]
  have lf2' : (((((w3.setCell ⟨w.heap.size + 3, 3, none⟩ (.int .u64 l3)).setCell ⟨w.heap.size + 4, 0, none⟩ (.int .u64 g30)).setCell ⟨w.heap.size + 4, 1, none⟩ (.int .u64 g31)).setCell ⟨w.heap.size + 4, 2, none⟩ (.int .u64 g32)).setCell ⟨w.heap.size + 4, 3, none⟩ (.int .u64 g33)).frozen? ⟨w.heap.size + 3, 2, none⟩ = false := by simp [go_sem, lf2]
  have lc3' : (((((w3.setCell ⟨w.heap.size + 3, 3, none⟩ (.int .u64 l3)).setCell ⟨w.heap.size + 4, 0, none⟩ (.int .u64 g30)).setCell ⟨w.heap.size + 4, 1, none⟩ (.int .u64 g31)).setCell ⟨w.heap.size + 4, 2, none⟩ (.int .u64 g32)).setCell ⟨w.heap.size + 4, 3, none⟩ (.int .u64 g33)).cell? ⟨w.heap.size + 3, 3, none⟩ = some (.int .u64 l3) := by simp [go_sem, lc3]
  have lf3' : (((((w3.setCell ⟨w.heap.size + 3, 3, none⟩ (.int .u64 l3)).setCell ⟨w.heap.size + 4, 0, none⟩ (.int .u64 g30)).setCell ⟨w.heap.size + 4, 1, none⟩ (.int .u64 g31)).setCell ⟨w.heap.size + 4, 2, none⟩ (.int .u64 g32)).setCell ⟨w.heap.size + 4, 3, none⟩ (.int .u64 g33)).frozen? ⟨w.heap.size + 3, 3, none⟩ = false := by simp [go_sem, lf3]
  have hc0' : (((((w3.setCell ⟨w.heap.size + 3, 3, none⟩ (.int .u64 l3)).setCell ⟨w.heap.size + 4, 0, none⟩ (.int .u64 g30)).setCell ⟨w.heap.size + 4, 1, none⟩ (.int .u64 g31)).setCell ⟨w.heap.size + 4, 2, none⟩ (.int .u64 g32)).setCell ⟨w.heap.size + 4, 3, none⟩ (.int .u64 g33)).cell? ⟨w.heap.size + 4, 0, none⟩ = some (.int .u64 g30) := by simp [go_sem, hc0]
  have hf0' : (((((w3.setCell ⟨w.heap.size + 3, 3, none⟩ (.int .u64 l3)).setCell ⟨w.heap.size + 4, 0, none⟩ (.int .u64 g30)).setCell ⟨w.heap.size + 4, 1, none⟩ (.int .u64 g31)).setCell ⟨w.heap.size + 4, 2, none⟩ (.int .u64 g32)).setCell ⟨w.heap.size + 4, 3, none⟩ (.int .u64 g33)).frozen? ⟨w.heap.size + 4, 0, none⟩ = false := by simp [go_sem, hf0]
  have hc1' : (((((w3.setCell ⟨w.heap.size + 3, 3, none⟩ (.int .u64 l3)).setCell ⟨w.heap.size + 4, 0, none⟩ (.int .u64 g30)).setCell ⟨w.heap.size + 4, 1, none⟩ (.int .u64 g31)).setCell ⟨w.heap.size + 4, 2, none⟩ (.int .u64 g32)).setCell ⟨w.heap.size + 4, 3, none⟩ (.int .u64 g33)).cell? ⟨w.heap.size + 4, 1, none⟩ = some (.int .u64 g31) := by simp [go_sem, hc1]
  have hf1' : (((((w3.setCell ⟨w.heap.size + 3, 3, none⟩ (.int .u64 l3)).setCell ⟨w.heap.size + 4, 0, none⟩ (.int .u64 g30)).setCell ⟨w.heap.size + 4, 1, none⟩ (.int .u64 g31)).setCell ⟨w.heap.size + 4, 2, none⟩ (.int .u64 g32)).setCell ⟨w.heap.size + 4, 3, none⟩ (.int .u64 g33)).frozen? ⟨w.heap.size + 4, 1, none⟩ = false := by simp [go_sem, hf1]
  have hc2' : (((((w3.setCell ⟨w.heap.size + 3, 3, none⟩ (.int .u64 l3)).setCell ⟨w.heap.size + 4, 0, none⟩ (.int .u64 g30)).setCell ⟨w.heap.size + 4, 1, none⟩ (.int .u64 g31)).setCell ⟨w.heap.size + 4, 2, none⟩ (.int .u64 g32)).setCell ⟨w.heap.size + 4, 3, none⟩ (.int .u64 g33)).cell? ⟨w.heap.size + 4, 2, none⟩ = some (.int .u64 g32) := by simp [go_sem, hc2]
  have hf2' : (((((w3.setCell ⟨w.heap.size + 3, 3, none⟩ (.int .u64 l3)).setCell ⟨w.heap.size + 4, 0, none⟩ (.int .u64 g30)).setCell ⟨w.heap.size + 4, 1, none⟩ (.int .u64 g31)).setCell ⟨w.heap.size + 4, 2, none⟩ (.int .u64 g32)).setCell ⟨w.heap.size + 4, 3, none⟩ (.int .u64 g33)).frozen? ⟨w.heap.size + 4, 2, none⟩ = false := by simp [go_sem, hf2]
  have hc3' : (((((w3.setCell ⟨w.heap.size + 3, 3, none⟩ (.int .u64 l3)).setCell ⟨w.heap.size + 4, 0, none⟩ (.int .u64 g30)).setCell ⟨w.heap.size + 4, 1, none⟩ (.int .u64 g31)).setCell ⟨w.heap.size + 4, 2, none⟩ (.int .u64 g32)).setCell ⟨w.heap.size + 4, 3, none⟩ (.int .u64 g33)).cell? ⟨w.heap.size + 4, 3, none⟩ = some (.int .u64 g33) := by simp [go_sem, hc3]
  have hf3' : (((((w3.setCell ⟨w.heap.size + 3, 3, none⟩ (.int .u64 l3)).setCell ⟨w.heap.size + 4, 0, none⟩ (.int .u64 g30)).setCell ⟨w.heap.size + 4, 1, none⟩ (.int .u64 g31)).setCell ⟨w.heap.size + 4, 2, none⟩ (.int .u64 g32)).setCell ⟨w.heap.size + 4, 3, none⟩ (.int .u64 g33)).frozen? ⟨w.heap.size + 4, 3, none⟩ = false := by simp [go_sem, hf3]
  have HB' : Hid (Below w.heap.size w (((((w3.setCell ⟨w.heap.size + 3, 3, none⟩ (.int .u64 l3)).setCell ⟨w.heap.size + 4, 0, none⟩ (.int .u64 g30)).setCell ⟨w.heap.size + 4, 1, none⟩ (.int .u64 g31)).setCell ⟨w.heap.size + 4, 2, none⟩ (.int .u64 g32)).setCell ⟨w.heap.size + 4, 3, none⟩ (.int .u64 g33))) := (((((HB.out.setCell (by first | exact Nat.le_refl _ | exact Nat.le_add_right _ _) _).setCell (by first | exact Nat.le_refl _ | exact Nat.le_add_right _ _) _).setCell (by first | exact Nat.le_refl _ | exact Nat.le_add_right _ _) _).setCell (by first | exact Nat.le_refl _ | exact Nat.le_add_right _ _) _).setCell (by first | exact Nat.le_refl _ | exact Nat.le_add_right _ _) _)
  have hz' : w.heap.size + 4 < (((((w3.setCell ⟨w.heap.size + 3, 3, none⟩ (.int .u64 l3)).setCell ⟨w.heap.size + 4, 0, none⟩ (.int .u64 g30)).setCell ⟨w.heap.size + 4, 1, none⟩ (.int .u64 g31)).setCell ⟨w.heap.size + 4, 2, none⟩ (.int .u64 g32)).setCell ⟨w.heap.size + 4, 3, none⟩ (.int .u64 g33)).heap.size := by simp; exact hz
  clear yc0 yc1 yc2 yc3 dc0 df0 dc1 df1 dc2 df2 dc3 df3 lc0 lf0 lc1 lf1 lc2 lf2 lc3 lf3 hc0 hf0 hc1 hf1 hc2 hf2 hc3 hf3 HB hz
  generalize ((((w3.setCell ⟨w.heap.size + 3, 3, none⟩ (.int .u64 l3)).setCell ⟨w.heap.size + 4, 0, none⟩ (.int .u64 g30)).setCell ⟨w.heap.size + 4, 1, none⟩ (.int .u64 g31)).setCell ⟨w.heap.size + 4, 2, none⟩ (.int .u64 g32)).setCell ⟨w.heap.size + 4, 3, none⟩ (.int .u64 g33) = W4 at *
  have yc0 := yc0'
  have yc1 := yc1'
  have yc2 := yc2'
  have yc3 := yc3'
  have dc0 := dc0'
  have df0 := df0'
  have dc1 := dc1'
  have df1 := df1'
  have dc2 := dc2'
  have df2 := df2'
  have dc3 := dc3'
  have df3 := df3'
  have lc0 := lc0'
  have lf0 := lf0'
  have lc1 := lc1'
  have lf1 := lf1'
  have lc2 := lc2'
  have lf2 := lf2'
  have lc3 := lc3'
  have lf3 := lf3'
  have hc0 := hc0'
  have hf0 := hf0'
  have hc1 := hc1'
  have hf1 := hf1'
  have hc2 := hc2'
  have hf2 := hf2'
  have hc3 := hc3'
  have hf3 := hf3'
  have HB := HB'
  have hz := hz'
  clear yc0' yc1' yc2' yc3' dc0' df0' dc1' df1' dc2' df2' dc3' df3' lc0' lf0' lc1' lf1' lc2' lf2' lc3' lf3' hc0' hf0' hc1' hf1' hc2' hf2' hc3' hf3' HB' hz'
  clear hx
  go_wp2_with fail
  refine (row_any _ _ _ _ _ _ _ _ _ ⟨hl0, hl1, hl2, hl3⟩ ⟨by decide, by decide⟩ hg3 _).mono ?_
  rintro e w5 ⟨l, h0, h1, h2, h3, rfl, hl, hh, HE, hb⟩
  replace HB : Hid (Below w.heap.size w w5) := HB.out.trans (hb.mono (by omega))
  have hz' : w.heap.size + 4 < w5.heap.size := by have := hb.size; omega
  have dc0' : w5.cell? ⟨w.heap.size + 2, 0, none⟩ = some (.int .u64 0) := cell_later hb (by simp [go_sem, dc0])
  have df0' : w5.frozen? ⟨w.heap.size + 2, 0, none⟩ = false := froz_later hb (by first | omega | (simp <;> omega)) (by simp [go_sem, df0])
  have dc1' : w5.cell? ⟨w.heap.size + 2, 1, none⟩ = some (.int .u64 0) := cell_later hb (by simp [go_sem, dc1])
  have df1' : w5.frozen? ⟨w.heap.size + 2, 1, none⟩ = false := froz_later hb (by first | omega | (simp <;> omega)) (by simp [go_sem, df1])
  have dc2' : w5.cell? ⟨w.heap.size + 2, 2, none⟩ = some (.int .u64 0) := cell_later hb (by simp [go_sem, dc2])
  have df2' : w5.frozen? ⟨w.heap.size + 2, 2, none⟩ = false := froz_later hb (by first | omega | (simp <;> omega)) (by simp [go_sem, df2])
  have dc3' : w5.cell? ⟨w.heap.size + 2, 3, none⟩ = some (.int .u64 0) := cell_later hb (by simp [go_sem, dc3])
  have df3' : w5.frozen? ⟨w.heap.size + 2, 3, none⟩ = false := froz_later hb (by first | omega | (simp <;> omega)) (by simp [go_sem, df3])
  clear dc0 df0 dc1 df1 dc2 df2 dc3 df3 hb hz
  have dc0 := dc0'
  have df0 := df0'
  have dc1 := dc1'
  have df1 := df1'
  have dc2 := dc2'
  have df2 := df2'
  have dc3 := dc3'
  have df3 := df3'
  clear dc0' df0' dc1' df1' dc2' df2' dc3' df3'
  have HV : Hid ((l + vl h0 h1 h2 h3 * 18446744073709551616) % 57896044618658097711785492504343953926634992332820282019728792003956564819949 = x * y % 57896044618658097711785492504343953926634992332820282019728792003956564819949 ∧ l + vl h0 h1 h2 h3 * 18446744073709551616 < 39 * 115792089237316195423570985008687907853269984665640564039457584007913129639936) := by
    have q0 := HE0.out
    have q1 := HE1.out
    have q2 := HE2.out
    have q3 := HE3.out
    rw [HY.out] at q0 q1 q2 q3
    have q := HE.out
    exact mul_sum x y l0 l1 l2 l3 _ _ _ _ l _ HX hy.h0 hy.h1 hl0 hl1 hl2 hl3 q0 q1 q2 q3 q
  have b3 : h3 < 288230376151711744 := by
    have h := HV.out.2
    obtain ⟨⟨_, _⟩, ⟨_, _⟩, ⟨_, _⟩, ⟨_, _⟩⟩ := hh
    obtain ⟨_, _⟩ := hl
    unfold vl at h
    omega
  go_wp2_with fail
  refine (reduceFive_any _ _ _ _ _ hl hh b3 _).mono ?_
  rintro e w6 ⟨z, rfl, hz2, HZ, hb⟩
  replace HB : Hid (Below w.heap.size w w6) := HB.out.trans (hb.mono (by omega))
  have dc0' : w6.cell? ⟨w.heap.size + 2, 0, none⟩ = some (.int .u64 0) := cell_later hb (by simp [go_sem, dc0])
  have df0' : w6.frozen? ⟨w.heap.size + 2, 0, none⟩ = false := froz_later hb (by first | omega | (simp <;> omega)) (by simp [go_sem, df0])
  have dc1' : w6.cell? ⟨w.heap.size + 2, 1, none⟩ = some (.int .u64 0) := cell_later hb (by simp [go_sem, dc1])
  have df1' : w6.frozen? ⟨w.heap.size + 2, 1, none⟩ = false := froz_later hb (by first | omega | (simp <;> omega)) (by simp [go_sem, df1])
  have dc2' : w6.cell? ⟨w.heap.size + 2, 2, none⟩ = some (.int .u64 0) := cell_later hb (by simp [go_sem, dc2])
  have df2' : w6.frozen? ⟨w.heap.size + 2, 2, none⟩ = false := froz_later hb (by first | omega | (simp <;> omega)) (by simp [go_sem, df2])
  have dc3' : w6.cell? ⟨w.heap.size + 2, 3, none⟩ = some (.int .u64 0) := cell_later hb (by simp [go_sem, dc3])
  have df3' : w6.frozen? ⟨w.heap.size + 2, 3, none⟩ = false := froz_later hb (by first | omega | (simp <;> omega)) (by simp [go_sem, df3])
  clear dc0 df0 dc1 df1 dc2 df2 dc3 df3 hb
  have dc0 := dc0'
  have df0 := df0'
  have dc1 := dc1'
  have df1 := df1'
  have dc2 := dc2'
  have df2 := df2'
  have dc3 := dc3'
  have df3 := df3'
  clear dc0' df0' dc1' df1' dc2' df2' dc3' df3'
  go_wp2
  refine bodyPost_ret (v := (.agg #[.int .u64 (e0 z), .int .u64 (e1 z), .int .u64 (e2 z), .int .u64 (e3 z)])) (by simp [results, Tryd.results10, go_sem, dc0, dc1, dc2, dc3]) rfl ⟨_, rfl, hz2, ?_, ?_⟩
  · have := HZ.out
    unfold Hid
    rw [this, HV.out.1]
  · exact ((((HB.out.setCell (by dsimp only; omega) _).setCell (by dsimp only; omega) _).setCell (by dsimp only; omega) _).setCell (by dsimp only; omega) _)
end Go.Proofs.YtggjifpcoidipaaDoor
