/-
  What field's Equal, squared and Invert do, for whatever numbers below p. No statement of the seat is proved here.
-/
import Derived.Test.YtggjifpcoidipaaDoorFMul
namespace Go.Proofs.YtggjifpcoidipaaDoor
open Go.RowKit

/-! ### Equal -/
theorem or_zero (a b : Int) (ha : Wd a) (hb : Wd b) : Wd (bits .or .u64 a b) ∧ (bits .or .u64 a b = 0 ↔ a = 0 ∧ b = 0) := by
  obtain ⟨a0, a1⟩ := ha
  obtain ⟨b0, b1⟩ := hb
  obtain ⟨a, rfl⟩ := Int.eq_ofNat_of_zero_le a0
  obtain ⟨b, rfl⟩ := Int.eq_ofNat_of_zero_le b0
  rw [bits_or_u64_nat a b (by omega) (by omega)]
  have h := Nat.or_lt_two_pow (n := 64) (x := a) (y := b) (by omega) (by omega)
  refine ⟨⟨by omega, by omega⟩, ?_⟩
  have := Nat.or_eq_zero_iff (n := a) (m := b)
  omega
theorem el_eq (x y : Int) (hx : El x) (hy : El y) : (bits .or .u64 (bits .or .u64 (bits .or .u64 (xo (e0 x) (e0 y)) (xo (e1 x) (e1 y))) (xo (e2 x) (e2 y))) (xo (e3 x) (e3 y)) = 0) ↔ x = y := by
  obtain ⟨x0, x1, x2, x3⟩ := hx.wd
  obtain ⟨y0, y1, y2, y3⟩ := hy.wd
  obtain ⟨p1, p2⟩ := or_zero _ _ (xo_wd _ _ x0 y0) (xo_wd _ _ x1 y1)
  obtain ⟨q1, q2⟩ := or_zero _ _ p1 (xo_wd _ _ x2 y2)
  obtain ⟨r1, r2⟩ := or_zero _ _ q1 (xo_wd _ _ x3 y3)
  rw [r2, q2, p2, xo_zero _ _ x0 y0, xo_zero _ _ x1 y1, xo_zero _ _ x2 y2, xo_zero _ _ x3 y3]
  constructor
  · rintro ⟨⟨⟨a, b⟩, c⟩, d⟩
    rw [← hx.vl, ← hy.vl, a, b, c, d]
  · rintro rfl
    exact ⟨⟨⟨rfl, rfl⟩, rfl⟩, rfl⟩
/-- Whether two numbers are the same. -/
def same (x y : Int) : Bool := decide (x = y)


/-! ### Powers -/
/-- A power, modulo p. -/
def pw (x : Int) (n : Nat) : Int := x ^ n % 57896044618658097711785492504343953926634992332820282019728792003956564819949
theorem pw_el (x : Int) (n : Nat) : El (pw x n) := El.mod _
theorem pw_one (x : Int) (h : El x) : pw x 1 = x := by
  unfold pw
  rw [Int.pow_succ, Int.pow_zero, Int.one_mul]
  exact Int.emod_eq_of_lt h.h0 h.h1
theorem pw_mul (x : Int) (n m : Nat) : pw x n * pw x m % 57896044618658097711785492504343953926634992332820282019728792003956564819949 = pw x (n + m) := by
  unfold pw
  rw [← Int.mul_emod, Int.pow_add]
theorem pw_sq (x : Int) (n k : Nat) : pw x (n * 2 ^ k) * pw x (n * 2 ^ k) % 57896044618658097711785492504343953926634992332820282019728792003956564819949 = pw x (n * 2 ^ (k + 1)) := by
  rw [pw_mul, Nat.pow_succ, ← Nat.mul_assoc]
  congr 1
  omega

set_option maxHeartbeats 2000000 in
theorem squared_e (x : Int) (n m : Nat) (hm : m ≤ 1000) (y : Int) (hy : El y) (HP : Hid (y = pw x n)) (w : World) :
    Calls Tryd.prog 36 #[(.agg #[.int .u64 (e0 y), .int .u64 (e1 y), .int .u64 (e2 y), .int .u64 (e3 y)]), .int .i64 m] w fun e w' => ∃ z, e = .returned (.agg #[.int .u64 (e0 z), .int .u64 (e1 z), .int .u64 (e2 z), .int .u64 (e3 z)]) ∧ El z ∧ Hid (z = pw x (n * 2 ^ m)) ∧ Below w.heap.size w w' := by
  go_enter Tryd.func36, Tryd.ntmps36
  go_wp2
  go_loopw [6] (fun i wl => ∃ (k : Nat) (z : Int), k ≤ m ∧ i = .int .i64 k ∧ El z ∧ Hid (z = pw x (n * 2 ^ k)) ∧ wl.cell? ⟨w.heap.size, 0, none⟩ = some (.int .u64 (e0 z)) ∧ wl.frozen? ⟨w.heap.size, 0, none⟩ = false ∧ wl.cell? ⟨w.heap.size, 1, none⟩ = some (.int .u64 (e1 z)) ∧ wl.frozen? ⟨w.heap.size, 1, none⟩ = false ∧ wl.cell? ⟨w.heap.size, 2, none⟩ = some (.int .u64 (e2 z)) ∧ wl.frozen? ⟨w.heap.size, 2, none⟩ = false ∧ wl.cell? ⟨w.heap.size, 3, none⟩ = some (.int .u64 (e3 z)) ∧ wl.frozen? ⟨w.heap.size, 3, none⟩ = false ∧ wl.cell? ⟨w.heap.size + 1, 0, none⟩ = some (.int .u64 0) ∧ wl.frozen? ⟨w.heap.size + 1, 0, none⟩ = false ∧ wl.cell? ⟨w.heap.size + 1, 1, none⟩ = some (.int .u64 0) ∧ wl.frozen? ⟨w.heap.size + 1, 1, none⟩ = false ∧ wl.cell? ⟨w.heap.size + 1, 2, none⟩ = some (.int .u64 0) ∧ wl.frozen? ⟨w.heap.size + 1, 2, none⟩ = false ∧ wl.cell? ⟨w.heap.size + 1, 3, none⟩ = some (.int .u64 0) ∧ wl.frozen? ⟨w.heap.size + 1, 3, none⟩ = false ∧ w.heap.size + 1 < wl.heap.size ∧ Hid (Below w.heap.size w wl)) (fun i _ => m - (intOf i).toNat)
  case atStart => exact ⟨0, y, Nat.zero_le _, rfl, hy, by unfold Hid; rw [Nat.pow_zero, Nat.mul_one]; exact HP.out, by simp [go_sem], by simp [go_sem], by simp [go_sem], by simp [go_sem], by simp [go_sem], by simp [go_sem], by simp [go_sem], by simp [go_sem], by simp [go_sem], by simp [go_sem], by simp [go_sem], by simp [go_sem], by simp [go_sem], by simp [go_sem], by simp [go_sem], by simp [go_sem], by simp, bel2 _ _ _⟩
  case round =>
    obtain ⟨k, z, hk, rfl, hz, HZ, ac0, af0, ac1, af1, ac2, af2, ac3, af3, dc0, df0, dc1, df1, dc2, df2, dc3, df3, hs, HB⟩ := hrel
    by_cases hlt : k < m
    · go_wp2_with fail
      refine (mul_e z z hz hz _).mono ?_
      rintro e w1 ⟨v, rfl, hv, HV, hb⟩
      have HV' : Hid (v = pw x (n * 2 ^ (k + 1))) := by unfold Hid; rw [HV.out, HZ.out, pw_sq]
      replace HB : Hid (Below w.heap.size w w1) := HB.out.trans (hb.mono (by omega))
      have hs' : w.heap.size + 1 < w1.heap.size := by have := hb.size; omega
      have ac0' : w1.cell? ⟨w.heap.size, 0, none⟩ = some (.int .u64 (e0 z)) := cell_later hb (by simp [go_sem, ac0])
      have af0' : w1.frozen? ⟨w.heap.size, 0, none⟩ = false := froz_later hb (by first | omega | (simp <;> omega)) (by simp [go_sem, af0])
      have ac1' : w1.cell? ⟨w.heap.size, 1, none⟩ = some (.int .u64 (e1 z)) := cell_later hb (by simp [go_sem, ac1])
      have af1' : w1.frozen? ⟨w.heap.size, 1, none⟩ = false := froz_later hb (by first | omega | (simp <;> omega)) (by simp [go_sem, af1])
      have ac2' : w1.cell? ⟨w.heap.size, 2, none⟩ = some (.int .u64 (e2 z)) := cell_later hb (by simp [go_sem, ac2])
      have af2' : w1.frozen? ⟨w.heap.size, 2, none⟩ = false := froz_later hb (by first | omega | (simp <;> omega)) (by simp [go_sem, af2])
      have ac3' : w1.cell? ⟨w.heap.size, 3, none⟩ = some (.int .u64 (e3 z)) := cell_later hb (by simp [go_sem, ac3])
      have af3' : w1.frozen? ⟨w.heap.size, 3, none⟩ = false := froz_later hb (by first | omega | (simp <;> omega)) (by simp [go_sem, af3])
      have dc0' : w1.cell? ⟨w.heap.size + 1, 0, none⟩ = some (.int .u64 0) := cell_later hb (by simp [go_sem, dc0])
      have df0' : w1.frozen? ⟨w.heap.size + 1, 0, none⟩ = false := froz_later hb (by first | omega | (simp <;> omega)) (by simp [go_sem, df0])
      have dc1' : w1.cell? ⟨w.heap.size + 1, 1, none⟩ = some (.int .u64 0) := cell_later hb (by simp [go_sem, dc1])
      have df1' : w1.frozen? ⟨w.heap.size + 1, 1, none⟩ = false := froz_later hb (by first | omega | (simp <;> omega)) (by simp [go_sem, df1])
      have dc2' : w1.cell? ⟨w.heap.size + 1, 2, none⟩ = some (.int .u64 0) := cell_later hb (by simp [go_sem, dc2])
      have df2' : w1.frozen? ⟨w.heap.size + 1, 2, none⟩ = false := froz_later hb (by first | omega | (simp <;> omega)) (by simp [go_sem, df2])
      have dc3' : w1.cell? ⟨w.heap.size + 1, 3, none⟩ = some (.int .u64 0) := cell_later hb (by simp [go_sem, dc3])
      have df3' : w1.frozen? ⟨w.heap.size + 1, 3, none⟩ = false := froz_later hb (by first | omega | (simp <;> omega)) (by simp [go_sem, df3])
      clear ac0 af0 ac1 af1 ac2 af2 ac3 af3 dc0 df0 dc1 df1 dc2 df2 dc3 df3 hb HV hs
      have ac0 := ac0'
      have af0 := af0'
      have ac1 := ac1'
      have af1 := af1'
      have ac2 := ac2'
      have af2 := af2'
      have ac3 := ac3'
      have af3 := af3'
      have dc0 := dc0'
      have df0 := df0'
      have dc1 := dc1'
      have df1 := df1'
      have dc2 := dc2'
      have df2 := df2'
      have dc3 := dc3'
      have df3 := df3'
      clear ac0' af0' ac1' af1' ac2' af2' ac3' af3' dc0' df0' dc1' df1' dc2' df2' dc3' df3'
      go_wp2
      go_roundw
      case rel => exact ⟨k + 1, v, by omega, by go_num, hv, HV', by simp [go_sem, ac0], by simp [go_sem, af0], by simp [go_sem, ac1], by simp [go_sem, af1], by simp [go_sem, ac2], by simp [go_sem, af2], by simp [go_sem, ac3], by simp [go_sem, af3], by simp [go_sem, dc0], by simp [go_sem, df0], by simp [go_sem, dc1], by simp [go_sem, df1], by simp [go_sem, dc2], by simp [go_sem, df2], by simp [go_sem, dc3], by simp [go_sem, df3], by simp; exact hs', ((((HB.out.setCell (by dsimp only; omega) _).setCell (by dsimp only; omega) _).setCell (by dsimp only; omega) _).setCell (by dsimp only; omega) _)⟩
      case measure => simp [intOf]; omega
    · have e : k = m := by omega
      subst e
      go_wp2
      refine bodyPost_ret (v := (.agg #[.int .u64 (e0 z), .int .u64 (e1 z), .int .u64 (e2 z), .int .u64 (e3 z)])) (by simp [results, Tryd.results36, go_sem, dc0, dc1, dc2, dc3]) rfl ⟨_, rfl, hz, HZ, ?_⟩
      exact ((((HB.out.setCell (by dsimp only; omega) _).setCell (by dsimp only; omega) _).setCell (by dsimp only; omega) _).setCell (by dsimp only; omega) _)
end Go.Proofs.YtggjifpcoidipaaDoor
