/-
 What field's plus, negated, flip, row do, each for whatever limbs. No statement of the seat is proved here.
-/
import Derived.Test.YtlnbjehimabaiaaGreatDoorPk17
namespace Go.Proofs.YtlnbjehimabaiaaGreatDoor.Fc
open Go.RowKit
set_option maxRecDepth 8000

/-- The number of four limbs. -/
def vl (a b c d : Int) : Int := a + b * 18446744073709551616 + c * 340282366920938463463374607431768211456 + d * 6277101735386680763835789423207666416102355444464034512896
structure Wd4 (a b c d : Int) : Prop where
 h0 : Wd a
 h1 : Wd b
 h2 : Wd c
 h3 : Wd d

theorem bel1 (w : World) (o : Obj) : Below w.heap.size w (w.alloc o) := (Below.refl _ _).alloc (Nat.le_refl _) o
theorem bel2 (w : World) (o1 o2 : Obj) : Below w.heap.size w ((w.alloc o1).alloc o2) := (bel1 w o1).alloc (by simp) o2
theorem bel3 (w : World) (o1 o2 o3 : Obj) : Below w.heap.size w (((w.alloc o1).alloc o2).alloc o3) := (bel2 w o1 o2).alloc (by simp; omega) o3
theorem bel4 (w : World) (o1 o2 o3 o4 : Obj) : Below w.heap.size w ((((w.alloc o1).alloc o2).alloc o3).alloc o4) := (bel3 w o1 o2 o3).alloc (by simp; omega) o4
theorem bel5 (w : World) (o1 o2 o3 o4 o5 : Obj) : Below w.heap.size w (((((w.alloc o1).alloc o2).alloc o3).alloc o4).alloc o5) := (bel4 w o1 o2 o3 o4).alloc (by simp; omega) o5

set_option maxHeartbeats 1000000 in
theorem plus_any (a0 a1 a2 a3 b0 b1 b2 b3 : Int) (ha : Wd4 a0 a1 a2 a3) (hb : Wd4 b0 b1 b2 b3) (w : World) :
  Calls Tryz.prog 132 #[(.agg #[.int .u64 a0, .int .u64 a1, .int .u64 a2, .int .u64 a3]), (.agg #[.int .u64 b0, .int .u64 b1, .int .u64 b2, .int .u64 b3])] w fun e w' =>
   ∃ s0 s1 s2 s3, e = .returned ((.agg #[.int .u64 s0, .int .u64 s1, .int .u64 s2, .int .u64 s3])) ∧ Wd4 s0 s1 s2 s3 ∧ vl s0 s1 s2 s3 = (vl a0 a1 a2 a3 + vl b0 b1 b2 b3) % 115792089237316195423570985008687907853269984665640564039457584007913129639936 ∧ Below w.heap.size w w' := by
 obtain ⟨⟨a00, a01⟩, ⟨a10, a11⟩, ⟨a20, a21⟩, ⟨a30, a31⟩⟩ := ha
 obtain ⟨⟨b00, b01⟩, ⟨b10, b11⟩, ⟨b20, b21⟩, ⟨b30, b31⟩⟩ := hb
 have k0 : 0 ≤ (a0 + b0) / 18446744073709551616 ∧ (a0 + b0) / 18446744073709551616 ≤ 1 := by omega
 generalize hc0 : (a0 + b0) / 18446744073709551616 = c0 at k0
 have k1 : 0 ≤ (a1 + b1 + c0) / 18446744073709551616 ∧ (a1 + b1 + c0) / 18446744073709551616 ≤ 1 := by omega
 generalize hc1 : (a1 + b1 + c0) / 18446744073709551616 = c1 at k1
 have k2 : 0 ≤ (a2 + b2 + c1) / 18446744073709551616 ∧ (a2 + b2 + c1) / 18446744073709551616 ≤ 1 := by omega
 generalize hc2 : (a2 + b2 + c1) / 18446744073709551616 = c2 at k2
 have s0 := fun w => (add64_0 a0 b0 a00 b00 w).trans (show _ = Result.ok (.value (.tuple #[.int .u64 ((a0 + b0) % 18446744073709551616), .int .u64 c0])) w by rw [hc0])
 have s1 := fun w => (add64 a1 b1 c0 a10 b10 k0.1 k0.2 w).trans (show _ = Result.ok (.value (.tuple #[.int .u64 ((a1 + b1 + c0) % 18446744073709551616), .int .u64 c1])) w by rw [hc1])
 have s2 := fun w => (add64 a2 b2 c1 a20 b20 k1.1 k1.2 w).trans (show _ = Result.ok (.value (.tuple #[.int .u64 ((a2 + b2 + c1) % 18446744073709551616), .int .u64 c2])) w by rw [hc2])
 have s3 := fun w => add64 a3 b3 c2 a30 b30 k2.1 k2.2 w
 have H0 : Hid ((a0 + b0) / 18446744073709551616 = c0) := hc0
 have H1 : Hid ((a1 + b1 + c0) / 18446744073709551616 = c1) := hc1
 have H2 : Hid ((a2 + b2 + c1) / 18446744073709551616 = c2) := hc2
 clear hc0 hc1 hc2
 go_enter Tryz.func132, Tryz.ntmps132
 go_wp2_with (first | simp only [s0] | simp only [s1] | simp only [s2] | simp only [s3])
 refine bodyPost_ret (v := (.agg #[.int .u64 ((a0 + b0) % 18446744073709551616), .int .u64 ((a1 + b1 + c0) % 18446744073709551616), .int .u64 ((a2 + b2 + c1) % 18446744073709551616), .int .u64 ((a3 + b3 + c2) % 18446744073709551616)])) (by simp [results, Tryz.results132, go_sem]) rfl ⟨_, _, _, _, rfl, ?_, ?_, ?_⟩
 ·exact ⟨⟨by omega, by omega⟩, ⟨by omega, by omega⟩, ⟨by omega, by omega⟩, ⟨by omega, by omega⟩⟩
 ·have := H0.out
  have := H1.out
  have := H2.out
  unfold vl
  omega
 ·exact bel3 _ _ _ _

set_option maxHeartbeats 1000000 in
/-- p less a number: from 1 to p. -/
theorem negated_any (a0 a1 a2 a3 : Int) (ha : Wd4 a0 a1 a2 a3) (hp : vl a0 a1 a2 a3 < 57896044618658097711785492504343953926634992332820282019728792003956564819949) (w : World) :
  Calls Tryz.prog 134 #[(.agg #[.int .u64 a0, .int .u64 a1, .int .u64 a2, .int .u64 a3])] w fun e w' =>
   ∃ s0 s1 s2 s3, e = .returned ((.agg #[.int .u64 s0, .int .u64 s1, .int .u64 s2, .int .u64 s3])) ∧ Wd4 s0 s1 s2 s3 ∧ vl s0 s1 s2 s3 = 57896044618658097711785492504343953926634992332820282019728792003956564819949 - vl a0 a1 a2 a3 ∧ Below w.heap.size w w' := by
 obtain ⟨⟨a00, a01⟩, ⟨a10, a11⟩, ⟨a20, a21⟩, ⟨a30, a31⟩⟩ := ha
 have k0 := bor_01 18446744073709551597 a0
 generalize hc0 : bor 18446744073709551597 a0 = c0 at k0
 have k1 := bor_01 18446744073709551615 (a1 + c0)
 generalize hc1 : bor 18446744073709551615 (a1 + c0) = c1 at k1
 have k2 := bor_01 18446744073709551615 (a2 + c1)
 generalize hc2 : bor 18446744073709551615 (a2 + c1) = c2 at k2
 have s0 := fun w => (sub64_0 18446744073709551597 a0 (by decide) a00 a01 w).trans (show _ = Result.ok (.value (.tuple #[.int .u64 ((18446744073709551597 - a0) % 18446744073709551616), .int .u64 c0])) w by rw [hc0])
 have s1 := fun w => (sub64 18446744073709551615 a1 c0 (by decide) a10 a11 k0.1 k0.2 w).trans (show _ = Result.ok (.value (.tuple #[.int .u64 ((18446744073709551615 - a1 - c0) % 18446744073709551616), .int .u64 c1])) w by rw [hc1])
 have s2 := fun w => (sub64 18446744073709551615 a2 c1 (by decide) a20 a21 k1.1 k1.2 w).trans (show _ = Result.ok (.value (.tuple #[.int .u64 ((18446744073709551615 - a2 - c1) % 18446744073709551616), .int .u64 c2])) w by rw [hc2])
 have s3 := fun w => sub64 9223372036854775807 a3 c2 (by decide) a30 a31 k2.1 k2.2 w
 have H0 : Hid (bor 18446744073709551597 a0 = c0) := hc0
 have H1 : Hid (bor 18446744073709551615 (a1 + c0) = c1) := hc1
 have H2 : Hid (bor 18446744073709551615 (a2 + c1) = c2) := hc2
 clear hc0 hc1 hc2
 have HP : Hid (vl a0 a1 a2 a3 < 57896044618658097711785492504343953926634992332820282019728792003956564819949) := hp
 clear hp
 go_enter Tryz.func134, Tryz.ntmps134
 go_wp2_with (first | simp only [s0] | simp only [s1] | simp only [s2] | simp only [s3])
 refine bodyPost_ret (v := (.agg #[.int .u64 ((18446744073709551597 - a0) % 18446744073709551616), .int .u64 ((18446744073709551615 - a1 - c0) % 18446744073709551616), .int .u64 ((18446744073709551615 - a2 - c1) % 18446744073709551616), .int .u64 ((9223372036854775807 - a3 - c2) % 18446744073709551616)])) (by simp [results, Tryz.results134, go_sem]) rfl ⟨_, _, _, _, rfl, ?_, ?_, ?_⟩
 ·exact ⟨⟨by omega, by omega⟩, ⟨by omega, by omega⟩, ⟨by omega, by omega⟩, ⟨by omega, by omega⟩⟩
 ·have h0 := H0.out
  have h1 := H1.out
  have h2 := H2.out
  have hp := HP.out
  unfold vl at *
  unfold bor at *
  split at h0 <;> split at h1 <;> split at h2 <;> omega
 ·exact bel2 _ _ _

/-! ### Exclusive or -/
def xo (a b : Int) : Int := bits .xor .u64 a b
theorem xo_nat (a b : Nat) (ha : a < 18446744073709551616) (hb : b < 18446744073709551616) : xo a b = ((a ^^^ b : Nat) : Int) := bits_xor_u64_nat a b ha hb
theorem xo_wd (a b : Int) (ha : Wd a) (hb : Wd b) : Wd (xo a b) := by
 obtain ⟨a0, a1⟩ := ha
 obtain ⟨b0, b1⟩ := hb
 obtain ⟨a, rfl⟩ := Int.eq_ofNat_of_zero_le a0
 obtain ⟨b, rfl⟩ := Int.eq_ofNat_of_zero_le b0
 rw [xo_nat a b (by omega) (by omega)]
 have := Nat.xor_lt_two_pow (n := 64) (x := a) (y := b) (by omega) (by omega)
 exact ⟨by omega, by omega⟩
theorem xo_zero (a b : Int) (ha : Wd a) (hb : Wd b) : xo a b = 0 ↔ a = b := by
 obtain ⟨a0, a1⟩ := ha
 obtain ⟨b0, b1⟩ := hb
 obtain ⟨a, rfl⟩ := Int.eq_ofNat_of_zero_le a0
 obtain ⟨b, rfl⟩ := Int.eq_ofNat_of_zero_le b0
 rw [xo_nat a b (by omega) (by omega)]
 have : a ^^^ b = 0 ↔ a = b := by
  constructor
  ·intro h
   have h' : (a ^^^ b) ^^^ b = b := by rw [h, Nat.zero_xor]
   rwa [Nat.xor_assoc, Nat.xor_self, Nat.xor_zero] at h'
  ·intro h
   rw [h, Nat.xor_self]
 omega
theorem xo_self (a b : Int) (ha : Wd a) (hb : Wd b) : xo a (xo a b) = b ∧ xo b (xo a b) = a := by
 obtain ⟨a0, a1⟩ := ha
 obtain ⟨b0, b1⟩ := hb
 obtain ⟨a, rfl⟩ := Int.eq_ofNat_of_zero_le a0
 obtain ⟨b, rfl⟩ := Int.eq_ofNat_of_zero_le b0
 have h := Nat.xor_lt_two_pow (n := 64) (x := a) (y := b) (by omega) (by omega)
 rw [xo_nat a b (by omega) (by omega), xo_nat a _ (by omega) (by omega), xo_nat b _ (by omega) (by omega)]
 rw [← Nat.xor_assoc, Nat.xor_self, Nat.zero_xor, Nat.xor_comm a b, ← Nat.xor_assoc, Nat.xor_self, Nat.zero_xor]
 exact ⟨rfl, rfl⟩
theorem xo_none (a : Int) (ha : Wd a) : xo a 0 = a := by
 obtain ⟨a0, a1⟩ := ha
 obtain ⟨a, rfl⟩ := Int.eq_ofNat_of_zero_le a0
 have := xo_nat a 0 (by omega) (by omega)
 simpa using this

set_option maxHeartbeats 1000000 in
theorem flip_any (a0 a1 a2 a3 b0 b1 b2 b3 : Int) (w : World) :
  Calls Tryz.prog 133 #[(.agg #[.int .u64 a0, .int .u64 a1, .int .u64 a2, .int .u64 a3]), (.agg #[.int .u64 b0, .int .u64 b1, .int .u64 b2, .int .u64 b3])] w fun e w' =>
   e = .returned ((.agg #[.int .u64 (xo a0 b0), .int .u64 (xo a1 b1), .int .u64 (xo a2 b2), .int .u64 (xo a3 b3)])) ∧ Below w.heap.size w w' := by
 go_enter Tryz.func133, Tryz.ntmps133
 go_wp2
 refine bodyPost_ret (v := (.agg #[.int .u64 (xo a0 b0), .int .u64 (xo a1 b1), .int .u64 (xo a2 b2), .int .u64 (xo a3 b3)])) (by simp [results, Tryz.results133, go_sem, xo]) rfl ⟨rfl, ?_⟩
 exact bel3 _ _ _ _

theorem step_g (x y u v : Int) (hx : Wd x) (hy : Wd y) (hu : Wd u) (hv : Wd v) (w : World) :
  Calls Tryz.prog 136 #[.int .u64 x, .int .u64 y, .int .u64 u, .int .u64 v] w fun e w' => ∃ h l, e = .returned (.tuple #[.int .u64 h, .int .u64 l]) ∧ Wd h ∧ Wd l ∧ Hid (l + h * 18446744073709551616 = x * y + u + v) ∧ w' = w := by
 obtain ⟨m0, m1⟩ := mul_bound x y hx hy
 refine (step_any x y u v hx hy hu hv w).mono ?_
 rintro e w' ⟨rfl, hw⟩
 obtain ⟨u0, u1⟩ := hu
 obtain ⟨v0, v1⟩ := hv
 generalize x * y = m at *
 exact ⟨_, _, rfl, ⟨by omega, by omega⟩, ⟨by omega, by omega⟩, (by unfold Hid; omega), hw⟩

theorem mul_vl (x b0 b1 b2 b3 : Int) : x * vl b0 b1 b2 b3 = vl (x * b0) (x * b1) (x * b2) (x * b3) := by
 unfold vl
 rw [Int.mul_add, Int.mul_add, Int.mul_add, Int.mul_assoc, Int.mul_assoc, Int.mul_assoc]

set_option maxHeartbeats 2000000 in
/-- s + x b in five limbs. -/
theorem row_any (s0 s1 s2 s3 x b0 b1 b2 b3 : Int) (hs : Wd4 s0 s1 s2 s3) (hx : Wd x) (hb : Wd4 b0 b1 b2 b3) (w : World) :
  Calls Tryz.prog 98 #[(.agg #[.int .u64 s0, .int .u64 s1, .int .u64 s2, .int .u64 s3]), .int .u64 x, (.agg #[.int .u64 b0, .int .u64 b1, .int .u64 b2, .int .u64 b3])] w fun e w' =>
   ∃ l h0 h1 h2 h3, e = .returned (.tuple #[.int .u64 l, (.agg #[.int .u64 h0, .int .u64 h1, .int .u64 h2, .int .u64 h3])]) ∧ Wd l ∧ Wd4 h0 h1 h2 h3 ∧ Hid (l + vl h0 h1 h2 h3 * 18446744073709551616 = vl s0 s1 s2 s3 + x * vl b0 b1 b2 b3) ∧ Below w.heap.size w w' := by
 obtain ⟨hs0, hs1, hs2, hs3⟩ := hs
 obtain ⟨hb0, hb1, hb2, hb3⟩ := hb
 have z : Wd 0 := ⟨by decide, by decide⟩
 go_enter Tryz.func98, Tryz.ntmps98
 go_wp2_with fail
 refine (step_g _ _ _ _ hx hb0 hs0 z _).mono ?_
 rintro e w' ⟨c0, l, rfl, hc0, hl, H0, hw⟩
 rw [hw]; clear hw w'
 go_wp2_with fail
 refine (step_g _ _ _ _ hx hb1 hs1 hc0 _).mono ?_
 rintro e w' ⟨c1, r0, rfl, hc1, hr0, H1, hw⟩
 rw [hw]; clear hw w'
 go_wp2_with fail
 refine (step_g _ _ _ _ hx hb2 hs2 hc1 _).mono ?_
 rintro e w' ⟨c2, r1, rfl, hc2, hr1, H2, hw⟩
 rw [hw]; clear hw w'
 go_wp2_with fail
 refine (step_g _ _ _ _ hx hb3 hs3 hc2 _).mono ?_
 rintro e w' ⟨c3, r2, rfl, hc3, hr2, H3, hw⟩
 rw [hw]; clear hw w'
 go_wp2
 go_region
 go_wp2
 refine bodyPost_ret (v := .tuple #[.int .u64 l, (.agg #[.int .u64 r0, .int .u64 r1, .int .u64 r2, .int .u64 c3])]) (by simp [results, Tryz.results98, go_sem]) rfl ⟨_, _, _, _, _, rfl, hl, ⟨hr0, hr1, hr2, hc3⟩, ?_, (bel3 _ _ _ _).drew⟩
 have e0 := H0.out
 have e1 := H1.out
 have e2 := H2.out
 have e3 := H3.out
 unfold Hid
 rw [mul_vl]
 unfold vl
 generalize x * b0 = m0 at *
 generalize x * b1 = m1 at *
 generalize x * b2 = m2 at *
 generalize x * b3 = m3 at *
 omega
end Go.Proofs.YtlnbjehimabaiaaGreatDoor.Fc
