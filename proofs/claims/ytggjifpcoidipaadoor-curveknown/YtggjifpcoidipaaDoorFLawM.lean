/-
  Plain arithmetic modulo p, for the laws of the field. No Go text in it; no statement of the seat is proved here.
-/
import Derived.Test.YtggjifpcoidipaaDoorFKnown
namespace Go.Proofs.YtggjifpcoidipaaDoor
open Go.RowKit

theorem em_mul_l (a b : Int) : a % 57896044618658097711785492504343953926634992332820282019728792003956564819949 * b % 57896044618658097711785492504343953926634992332820282019728792003956564819949 = a * b % 57896044618658097711785492504343953926634992332820282019728792003956564819949 := by rw [Int.mul_emod, Int.emod_emod, ← Int.mul_emod]
theorem em_mul_r (a b : Int) : a * (b % 57896044618658097711785492504343953926634992332820282019728792003956564819949) % 57896044618658097711785492504343953926634992332820282019728792003956564819949 = a * b % 57896044618658097711785492504343953926634992332820282019728792003956564819949 := by rw [Int.mul_emod, Int.emod_emod, ← Int.mul_emod]
theorem em_add_l (a b : Int) : (a % 57896044618658097711785492504343953926634992332820282019728792003956564819949 + b) % 57896044618658097711785492504343953926634992332820282019728792003956564819949 = (a + b) % 57896044618658097711785492504343953926634992332820282019728792003956564819949 := by rw [Int.add_emod, Int.emod_emod, ← Int.add_emod]
theorem em_add_r (a b : Int) : (a + b % 57896044618658097711785492504343953926634992332820282019728792003956564819949) % 57896044618658097711785492504343953926634992332820282019728792003956564819949 = (a + b) % 57896044618658097711785492504343953926634992332820282019728792003956564819949 := by rw [Int.add_emod, Int.emod_emod, ← Int.add_emod]
theorem em_sub_l (a b : Int) : (a % 57896044618658097711785492504343953926634992332820282019728792003956564819949 - b) % 57896044618658097711785492504343953926634992332820282019728792003956564819949 = (a - b) % 57896044618658097711785492504343953926634992332820282019728792003956564819949 := by rw [Int.sub_emod, Int.emod_emod, ← Int.sub_emod]
theorem em_sub_r (a b : Int) : (a - b % 57896044618658097711785492504343953926634992332820282019728792003956564819949) % 57896044618658097711785492504343953926634992332820282019728792003956564819949 = (a - b) % 57896044618658097711785492504343953926634992332820282019728792003956564819949 := by rw [Int.sub_emod, Int.emod_emod, ← Int.sub_emod]
theorem El.em {x : Int} (h : El x) : x % 57896044618658097711785492504343953926634992332820282019728792003956564819949 = x := Int.emod_eq_of_lt h.h0 h.h1
theorem same_t {x y : Int} (h : x = y) : same x y = true := by unfold same; rw [decide_eq_true_iff]; exact h
theorem same_f {x y : Int} (h : x ≠ y) : same x y = false := by unfold same; rw [decide_eq_false_iff_not]; exact h
theorem pw_em (x : Int) : ∀ n, (x % 57896044618658097711785492504343953926634992332820282019728792003956564819949) ^ n % 57896044618658097711785492504343953926634992332820282019728792003956564819949 = x ^ n % 57896044618658097711785492504343953926634992332820282019728792003956564819949
  | 0 => by rw [Int.pow_zero, Int.pow_zero]
  | n + 1 => by rw [Int.pow_succ, Int.pow_succ, Int.mul_emod, pw_em x n, Int.emod_emod, ← Int.mul_emod]
theorem pw_mul_base (x y : Int) (n : Nat) : pw (x * y % 57896044618658097711785492504343953926634992332820282019728792003956564819949) n = pw x n * pw y n % 57896044618658097711785492504343953926634992332820282019728792003956564819949 := by
  unfold pw
  rw [pw_em, Int.mul_pow, Int.mul_emod]
theorem pw_zero (n : Nat) (h : 0 < n) : pw 0 n = 0 := by
  unfold pw
  rw [Int.zero_pow (by omega)]
  rfl
/-- The inverse of an inverse. -/
theorem inv_inv (x : Int) (hx : El x) : pw (pw x 57896044618658097711785492504343953926634992332820282019728792003956564819947) 57896044618658097711785492504343953926634992332820282019728792003956564819947 = x := by
  by_cases h : x = 0
  · rw [h, pw_zero _ (by decide), pw_zero _ (by decide)]
  · have h1 := inv_mul x hx h
    generalize hy : pw x 57896044618658097711785492504343953926634992332820282019728792003956564819947 = y at *
    have ey : El y := by rw [← hy]; exact pw_el _ _
    have hy0 : y ≠ 0 := fun e => by
      rw [e, Int.mul_zero] at h1
      exact absurd h1 (by decide)
    have h2 := inv_mul y ey hy0
    generalize hz : pw y 57896044618658097711785492504343953926634992332820282019728792003956564819947 = z at *
    have ez : El z := by rw [← hz]; exact pw_el _ _
    have a1 : x * y * z % 57896044618658097711785492504343953926634992332820282019728792003956564819949 = z := by rw [← em_mul_l, h1, Int.one_mul, ez.em]
    have a2 : x * y * z % 57896044618658097711785492504343953926634992332820282019728792003956564819949 = x := by rw [Int.mul_assoc, ← em_mul_r, h2, Int.mul_one, hx.em]
    rw [← a1, a2]
/-- Nothing that was there has turned. -/
def Ext (w w' : World) : Prop := Below w.heap.size w w'
theorem Ext.refl (w : World) : Ext w w := Below.refl _ _
theorem Ext.trans {a b c : World} (h : Ext a b) (k : Below b.heap.size b c) : Ext a c := Below.trans h (k.mono h.size)
theorem Ext.drew {a b : World} (h : Ext a b) : Ext a b.drew := Below.drew h
theorem Ext.cell {a u : World} (h : Ext a u) {b o : Nat} {v : Value} (hc : a.cell? ⟨b, o, none⟩ = some v) : u.cell? ⟨b, o, none⟩ = some v := cell_later h hc
theorem ret_bool {x y : Bool} (h : x = y) : Ending.returned (.bool x) = .returned (.bool y) := by rw [h]
theorem arr_box (u : World) (l : List Int) (h : By l) : Arr (u.alloc (.cells (List.map (Value.int .u8) l).toArray 22)) u.heap.size (List.map (Value.int .u8) l) :=
  ⟨fun j v hv => by rw [Nat.zero_add, cell_of_row _ _ _ _ _ _ (heap_alloc_new u _)]; simpa using hv, there_new u 32 _ (by rw [List.size_toArray, List.length_map, h.len]) _⟩
theorem own_other {u : World} {b c : Nat} (h : Own u b) (hne : b ≠ c) (v0 v1 v2 v3 : Value) : Own ((((u.setCell ⟨c, 0, none⟩ v0).setCell ⟨c, 1, none⟩ v1).setCell ⟨c, 2, none⟩ v2).setCell ⟨c, 3, none⟩ v3) b := by
  obtain ⟨⟨x0, h0⟩, ⟨x1, h1⟩, ⟨x2, h2⟩, ⟨x3, h3⟩, f0, f1, f2, f3⟩ := h
  have hb : c ≠ b := fun e => hne e.symm
  refine ⟨⟨x0, ?_⟩, ⟨x1, ?_⟩, ⟨x2, ?_⟩, ⟨x3, ?_⟩, ?_, ?_, ?_, ?_⟩
  · simp [go_sem, h0]
  · simp [go_sem, h1]
  · simp [go_sem, h2]
  · simp [go_sem, h3]
  · simp [go_sem, f0]
  · simp [go_sem, f1]
  · simp [go_sem, f2]
  · simp [go_sem, f3]
theorem own_set {u : World} {b : Nat} (h : Own u b) (v0 v1 v2 v3 : Value) : Own ((((u.setCell ⟨b, 0, none⟩ v0).setCell ⟨b, 1, none⟩ v1).setCell ⟨b, 2, none⟩ v2).setCell ⟨b, 3, none⟩ v3) b := by
  obtain ⟨⟨x0, h0⟩, ⟨x1, h1⟩, ⟨x2, h2⟩, ⟨x3, h3⟩, f0, f1, f2, f3⟩ := h
  refine ⟨⟨v0, ?_⟩, ⟨v1, ?_⟩, ⟨v2, ?_⟩, ⟨v3, ?_⟩, ?_, ?_, ?_, ?_⟩
  · simp [go_sem, h0]
  · simp [go_sem, h1]
  · simp [go_sem, h2]
  · simp [go_sem, h3]
  · simp [go_sem, f0]
  · simp [go_sem, f1]
  · simp [go_sem, f2]
  · simp [go_sem, f3]
theorem arr_other {u : World} {b c : Nat} {cs : List Value} (h : Arr u b cs) (hne : b ≠ c) (v0 v1 v2 v3 : Value) : Arr ((((u.setCell ⟨c, 0, none⟩ v0).setCell ⟨c, 1, none⟩ v1).setCell ⟨c, 2, none⟩ v2).setCell ⟨c, 3, none⟩ v3) b cs :=
  ⟨range_else (range_else (range_else (range_else h.rng hne _) hne _) hne _) hne _, there_set (there_set (there_set (there_set h.all _ _ _) _ _ _) _ _ _) _ _ _⟩
theorem var_other {u : World} {b c : Nat} {v : Int} (h : Var u b v) (hne : b ≠ c) (v0 v1 v2 v3 : Value) : Var ((((u.setCell ⟨c, 0, none⟩ v0).setCell ⟨c, 1, none⟩ v1).setCell ⟨c, 2, none⟩ v2).setCell ⟨c, 3, none⟩ v3) b v := by
  obtain ⟨h0, h1, h2, h3⟩ := h
  have hb : c ≠ b := fun e => hne e.symm
  refine ⟨?_, ?_, ?_, ?_⟩
  · simp [go_sem, h0]
  · simp [go_sem, h1]
  · simp [go_sem, h2]
  · simp [go_sem, h3]
theorem Ext.set4 {a u : World} (h : Ext a u) (n : Nat) (hn : a.heap.size ≤ n) (v0 v1 v2 v3 : Value) : Ext a ((((u.setCell ⟨n, 0, none⟩ v0).setCell ⟨n, 1, none⟩ v1).setCell ⟨n, 2, none⟩ v2).setCell ⟨n, 3, none⟩ v3) := below_set4 h n hn _ _ _ _
theorem Var.lt {u : World} {b : Nat} {v : Int} (h : Var u b v) : b < u.heap.size := World.block_lt_of_cell? u _ h.c0
end Go.Proofs.YtggjifpcoidipaaDoor
