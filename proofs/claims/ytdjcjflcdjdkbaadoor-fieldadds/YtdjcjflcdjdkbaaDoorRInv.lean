/-
  What the reference's Invert does: the power p - 2. No statement of the seat is proved here.
-/
import Derived.Test.YtdjcjflcdjdkbaaDoorRMul
namespace Go.Proofs.YtdjcjflcdjdkbaaDoor
open Go.RowKit

/-- The bits of p - 2. -/
theorem bits_n : ∀ s, s < 255 → 57896044618658097711785492504343953926634992332820282019728792003956564819947 / 2 ^ s % 2 = if s = 2 ∨ s = 4 then 0 else 1 := by decide +kernel
theorem pow_step (s : Nat) (h : s < 255) : 57896044618658097711785492504343953926634992332820282019728792003956564819947 / 2 ^ s = 2 * (57896044618658097711785492504343953926634992332820282019728792003956564819947 / 2 ^ (s + 1)) + (if s = 2 ∨ s = 4 then 0 else 1) := by
  rw [← bits_n s h, Nat.pow_succ, ← Nat.div_div_eq_div_mul]
  generalize 57896044618658097711785492504343953926634992332820282019728792003956564819947 / 2 ^ s = q
  omega
theorem nv_el {x : Int} (h : El x) : nv (dg 16 x) = x := nv_dg 16 x h.h0 (Int.lt_trans h.h1 (by decide))
theorem one_eq : (.agg #[.int .u64 1, .int .u64 0, .int .u64 0, .int .u64 0, .int .u64 0, .int .u64 0, .int .u64 0, .int .u64 0, .int .u64 0, .int .u64 0, .int .u64 0, .int .u64 0, .int .u64 0, .int .u64 0, .int .u64 0, .int .u64 0] : Value) = .agg (List.map (Value.int .u64) (dg 16 1)).toArray := by kernel_rfl
theorem pw_nought (x : Int) : pw x 0 = 1 := by
  unfold pw
  rw [Int.pow_zero]
  rfl
theorem pw_succ (x : Int) (hx : El x) (n : Nat) : pw x n * x % 57896044618658097711785492504343953926634992332820282019728792003956564819949 = pw x (n + 1) := by
  have := pw_mul x n 1
  rwa [pw_one x hx] at this

/-- A product of two numbers below p. -/
theorem rmul_el (a b : List Int) (x y : Int) (hx : El x) (hy : El y) (HA : Hid (a = dg 16 x)) (HY : Hid (b = dg 16 y)) (w : World) (hg : Gp w) :
    Calls Tryd.prog 15 #[.agg (List.map (Value.int .u64) a).toArray, .agg (List.map (Value.int .u64) b).toArray] w fun e w' => ∃ z, e = .returned (.agg (List.map (Value.int .u64) z).toArray) ∧ Hid (z = dg 16 (x * y % 57896044618658097711785492504343953926634992332820282019728792003956564819949)) ∧ Below w.heap.size w w' := by
  refine (rmul_any a b (by rw [HA.out, dg_length]) (by rw [HY.out, dg_length]) (by rw [HA.out]; exact dg_dg _ _) (by rw [HY.out]; exact dg_dg _ _) w hg).mono ?_
  rintro e w' ⟨z, rfl, HZ, hb⟩
  refine ⟨z, rfl, ?_, hb⟩
  unfold Hid
  rw [HZ.out, HA.out, HY.out, nv_el hx, nv_el hy]

end Go.Proofs.YtdjcjflcdjdkbaaDoor
