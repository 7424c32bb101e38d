/-
  What field's Equal, squared and Invert do, for whatever numbers below p. No statement of the seat is proved here.
-/
import Derived.Test.YtdjcjflcdjdkbaaDoorFMul
namespace Go.Proofs.YtdjcjflcdjdkbaaDoor
open Go.RowKit

/-! ### Equal -/
theorem or_zero (a b : Int) (ha : Wd a) (hb : Wd b) : Wd (bits .or .u64 a b) ∧ (bits .or .u64 a b = 0 ↔ a = 0 ∧ b = 0) := by
  obtain ⟨a0, a1⟩ := ha
  obtain ⟨b0, b1⟩ := hb
  obtain ⟨a, rfl⟩ := Int.eq_ofNat_of_zero_le a0
  obtain ⟨b, rfl⟩ := Int.eq_ofNat_of_zero_le b0
  rw [bits_or_u64_nat a b (by omega) (by omega)]
  have h := Nat.or_lt_two_pow (n := 64) (x := a) (y := b) (by omega) (by omega)
  refine ⟨⟨by omega, by omega⟩, ?_⟩
  have := Nat.or_eq_zero_iff (n := a) (m := b)
  omega
theorem el_eq (x y : Int) (hx : El x) (hy : El y) : (bits .or .u64 (bits .or .u64 (bits .or .u64 (xo (e0 x) (e0 y)) (xo (e1 x) (e1 y))) (xo (e2 x) (e2 y))) (xo (e3 x) (e3 y)) = 0) ↔ x = y := by
  obtain ⟨x0, x1, x2, x3⟩ := hx.wd
  obtain ⟨y0, y1, y2, y3⟩ := hy.wd
  obtain ⟨p1, p2⟩ := or_zero _ _ (xo_wd _ _ x0 y0) (xo_wd _ _ x1 y1)
  obtain ⟨q1, q2⟩ := or_zero _ _ p1 (xo_wd _ _ x2 y2)
  obtain ⟨r1, r2⟩ := or_zero _ _ q1 (xo_wd _ _ x3 y3)
  rw [r2, q2, p2, xo_zero _ _ x0 y0, xo_zero _ _ x1 y1, xo_zero _ _ x2 y2, xo_zero _ _ x3 y3]
  constructor
  · rintro ⟨⟨⟨a, b⟩, c⟩, d⟩
    rw [← hx.vl, ← hy.vl, a, b, c, d]
  · rintro rfl
    exact ⟨⟨⟨rfl, rfl⟩, rfl⟩, rfl⟩
/-- Whether two numbers are the same. -/
def same (x y : Int) : Bool := decide (x = y)

set_option maxHeartbeats 1000000 in
theorem equal_e (x y : Int) (hx : El x) (hy : El y) (w : World) :
    Calls Tryd.prog 16 #[(.agg #[.int .u64 (e0 x), .int .u64 (e1 x), .int .u64 (e2 x), .int .u64 (e3 x)]), (.agg #[.int .u64 (e0 y), .int .u64 (e1 y), .int .u64 (e2 y), .int .u64 (e3 y)])] w fun e w' => e = .returned (.bool (same x y)) ∧ Below w.heap.size w w' := by
  have HQ := el_eq x y hx hy
  generalize h0 : xo (e0 x) (e0 y) = q0 at *
  generalize h1 : xo (e1 x) (e1 y) = q1 at *
  generalize h2 : xo (e2 x) (e2 y) = q2 at *
  generalize h3 : xo (e3 x) (e3 y) = q3 at *
  generalize hoo : bits .or .u64 (bits .or .u64 (bits .or .u64 q0 q1) q2) q3 = oo at *
  have HB' : Hid (same x y = decide (oo = 0)) := by unfold Hid same; exact decide_eq_decide.2 HQ.symm
  clear HQ
  go_enter Tryd.func16, Tryd.ntmps16
  go_wp2_with fail
  refine (flip_any _ _ _ _ _ _ _ _ _).mono ?_
  rintro e w1 ⟨rfl, hb⟩
  rw [h0, h1, h2, h3]
  clear h0 h1 h2 h3
  have HB : Hid (Below w.heap.size w w1) := (bel2 _ _ _).trans (hb.mono (by simp; omega))
  have hz : w.heap.size < w1.heap.size := by have := hb.size; simp at this; omega
  clear hb
  go_wp2
  go_ret
  refine ⟨?_, HB.out.alloc (by omega) _⟩
  rw [HB'.out]
  congr 2

/-! ### Powers -/
/-- A power, modulo p. -/
def pw (x : Int) (n : Nat) : Int := x ^ n % 57896044618658097711785492504343953926634992332820282019728792003956564819949
theorem pw_el (x : Int) (n : Nat) : El (pw x n) := El.mod _
theorem pw_one (x : Int) (h : El x) : pw x 1 = x := by
  unfold pw
  rw [Int.pow_succ, Int.pow_zero, Int.one_mul]
  exact Int.emod_eq_of_lt h.h0 h.h1
theorem pw_mul (x : Int) (n m : Nat) : pw x n * pw x m % 57896044618658097711785492504343953926634992332820282019728792003956564819949 = pw x (n + m) := by
  unfold pw
  rw [← Int.mul_emod, Int.pow_add]
theorem pw_sq (x : Int) (n k : Nat) : pw x (n * 2 ^ k) * pw x (n * 2 ^ k) % 57896044618658097711785492504343953926634992332820282019728792003956564819949 = pw x (n * 2 ^ (k + 1)) := by
  rw [pw_mul, Nat.pow_succ, ← Nat.mul_assoc]
  congr 1
  omega

end Go.Proofs.YtdjcjflcdjdkbaaDoor
