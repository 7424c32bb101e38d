/-
  What field's Mul does, for whatever numbers below p. No statement of the seat is proved here.
-/
import Derived.Test.YtdjcjflcdjdkbaaDoorFEl
namespace Go.Proofs.YtdjcjflcdjdkbaaDoor
open Go.RowKit

theorem mul_sum (x y l0 l1 l2 l3 g0 g1 g2 g3 l V : Int) (hx : El x) (y0 : 0 ≤ y) (y1 : y < 57896044618658097711785492504343953926634992332820282019728792003956564819949) (b0 : Wd l0) (b1 : Wd l1) (b2 : Wd l2) (b3 : Wd l3)
    (q0 : l0 + g0 * 18446744073709551616 = 0 + e0 x * y) (q1 : l1 + g1 * 18446744073709551616 = g0 + e1 x * y) (q2 : l2 + g2 * 18446744073709551616 = g1 + e2 x * y) (q3 : l3 + g3 * 18446744073709551616 = g2 + e3 x * y)
    (q : l + V * 18446744073709551616 = vl l0 l1 l2 l3 + 38 * g3) : (l + V * 18446744073709551616) % 57896044618658097711785492504343953926634992332820282019728792003956564819949 = x * y % 57896044618658097711785492504343953926634992332820282019728792003956564819949 ∧ l + V * 18446744073709551616 < 39 * 115792089237316195423570985008687907853269984665640564039457584007913129639936 := by
  have e : x * y = vl l0 l1 l2 l3 + g3 * 115792089237316195423570985008687907853269984665640564039457584007913129639936 := by
    have hv := hx.vl
    have : x * y = vl (e0 x) (e1 x) (e2 x) (e3 x) * y := by rw [hv]
    rw [this]
    have ee : vl (e0 x) (e1 x) (e2 x) (e3 x) * y = vl (e0 x * y) (e1 x * y) (e2 x * y) (e3 x * y) := by
      rw [Int.mul_comm, mul_vl, Int.mul_comm y, Int.mul_comm y, Int.mul_comm y, Int.mul_comm y]
    rw [ee]
    clear ee
    generalize e0 x * y = m0 at *
    generalize e1 x * y = m1 at *
    generalize e2 x * y = m2 at *
    generalize e3 x * y = m3 at *
    unfold vl
    omega
  have hb : x * y < 57896044618658097711785492504343953926634992332820282019728792003956564819949 * 57896044618658097711785492504343953926634992332820282019728792003956564819949 := Int.lt_of_le_of_lt (Int.mul_le_mul (c := 57896044618658097711785492504343953926634992332820282019728792003956564819949 - 1) (d := 57896044618658097711785492504343953926634992332820282019728792003956564819949 - 1) (by have := hx.h1; omega) (by omega) y0 (by decide)) (by decide)
  obtain ⟨_, _⟩ := b0
  obtain ⟨_, _⟩ := b1
  obtain ⟨_, _⟩ := b2
  obtain ⟨_, _⟩ := b3
  constructor
  · rw [q, e]
    have e3 : vl l0 l1 l2 l3 + g3 * 115792089237316195423570985008687907853269984665640564039457584007913129639936 = vl l0 l1 l2 l3 + 38 * g3 + 57896044618658097711785492504343953926634992332820282019728792003956564819949 * (2 * g3) := by omega
    rw [e3, Int.add_mul_emod_self_left]
  · rw [q]
    generalize x * y = m at *
    unfold vl at *
    omega

end Go.Proofs.YtdjcjflcdjdkbaaDoor
