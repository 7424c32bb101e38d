/-
 What field's reduce and reduceFive do: the number modulo p, for whatever limbs. No statement of the seat is proved here.
-/
import Derived.Test.YtlnbjehimabaiaaGreatDoorFLimbs
import Derived.Deep.Cut
namespace Go.Proofs.YtlnbjehimabaiaaGreatDoor.Fc
open Go.RowKit
set_option maxRecDepth 8000

theorem bcell {W w1 : World} (hb : Below W.heap.size W w1) : (∀ b o, b < W.heap.size → w1.cell? ⟨b, o, none⟩ = W.cell? ⟨b, o, none⟩) ∧ (∀ b o, b < W.heap.size → w1.frozen? ⟨b, o, none⟩ = W.frozen? ⟨b, o, none⟩) :=
 ⟨fun b o h => hb.cell (p := ⟨b, o, none⟩) h, fun b o h => hb.frozen (p := ⟨b, o, none⟩) h⟩
theorem or_top (h a : Int) (h0 : 0 ≤ h) (h1 : h < 288230376151711744) (ha : Wd a) : bits .or .u64 (h * 2) (a / 9223372036854775808) = h * 2 + a / 9223372036854775808 := by
 obtain ⟨a0, a1⟩ := ha
 have b : a / 9223372036854775808 = 0 ∨ a / 9223372036854775808 = 1 := by omega
 obtain ⟨h, rfl⟩ := Int.eq_ofNat_of_zero_le h0
 have e : ((h : Int) * 2) = ((h * 2 : Nat) : Int) := by simp
 rw [e]
 rcases b with b | b <;> rw [b]
 ·have := bits_or_u64_nat (h * 2) 0 (by omega) (by omega)
  simpa using this
 ·have := bits_or_u64_nat (h * 2) 1 (by omega) (by omega)
  have e2 : h * 2 ||| 1 = h * 2 + 1 := by
   have := Nat.shiftLeft_add_eq_or_of_lt (a := h) (b := 1) (i := 1) (by omega)
   rw [Nat.shiftLeft_eq] at this
   rw [← this, Nat.pow_one]
  rw [e2] at this
  simpa using this
theorem froz_later {W w1 : World} (hb : Below W.heap.size W w1) {b o : Nat} (h : b < W.heap.size) (hf : W.frozen? ⟨b, o, none⟩ = false) : w1.frozen? ⟨b, o, none⟩ = false := by
 rw [hb.frozen (p := ⟨b, o, none⟩) h, hf]
theorem field_top (t0 t1 t2 t3 : Int) (w : World) : Sem.run Tryz.prog (Instr.field 99 (.agg #[.int .u64 t0, .int .u64 t1, .int .u64 t2, .int .u64 t3]) 3) w = .ok (.int .u64 t3) w := by kernel_rfl

theorem red1 (v a0 a1 a2 a3 r o h : Int) (hr : r = a3 % 9223372036854775808) (ho : o = h * 2 + a3 / 9223372036854775808) (h0 : 0 ≤ h) (h1 : h < 288230376151711744) (ha : Wd4 a0 a1 a2 a3)
  (hv : v = (vl a0 a1 a2 r + vl (19 * o) 0 0 0) % 115792089237316195423570985008687907853269984665640564039457584007913129639936) :
  0 ≤ v ∧ v < 57896044618658097711785492504343953926634992332820282019728792003956564819968 + 18446744073709551616 ∧ v % 57896044618658097711785492504343953926634992332820282019728792003956564819949 = (vl a0 a1 a2 a3 + h * 115792089237316195423570985008687907853269984665640564039457584007913129639936) % 57896044618658097711785492504343953926634992332820282019728792003956564819949 := by
 obtain ⟨⟨a00, a01⟩, ⟨a10, a11⟩, ⟨a20, a21⟩, ⟨a30, a31⟩⟩ := ha
 unfold vl at *
 have hv' : v = a0 + a1 * 18446744073709551616 + a2 * 340282366920938463463374607431768211456 + r * 6277101735386680763835789423207666416102355444464034512896 + 19 * o := by omega
 refine ⟨by omega, by omega, ?_⟩
 have e : a0 + a1 * 18446744073709551616 + a2 * 340282366920938463463374607431768211456 + a3 * 6277101735386680763835789423207666416102355444464034512896 + h * 115792089237316195423570985008687907853269984665640564039457584007913129639936 = v + 57896044618658097711785492504343953926634992332820282019728792003956564819949 * o := by omega
 rw [e, Int.add_mul_emod_self_left]

theorem red2 (s0 s1 s2 s3 t0 t1 t2 t3 o2 u0 u1 u2 u3 q : Int) (ht : Wd4 t0 t1 t2 t3) (hu : Wd4 u0 u1 u2 u3) (p0 : 0 ≤ vl s0 s1 s2 s3) (p1 : vl s0 s1 s2 s3 < 57896044618658097711785492504343953926634992332820282019728792003956564819968 + 18446744073709551616)
  (e2 : vl t0 t1 t2 t3 = (vl s0 s1 s2 s3 + vl 19 0 0 0) % 115792089237316195423570985008687907853269984665640564039457584007913129639936) (ho : o2 = t3 / 9223372036854775808) (e3 : vl u0 u1 u2 u3 = (vl s0 s1 s2 s3 + vl (19 * o2) 0 0 0) % 115792089237316195423570985008687907853269984665640564039457584007913129639936) (hq : q = u3 % 9223372036854775808) :
  vl u0 u1 u2 q = vl s0 s1 s2 s3 % 57896044618658097711785492504343953926634992332820282019728792003956564819949 := by
 obtain ⟨⟨_, _⟩, ⟨_, _⟩, ⟨_, _⟩, ⟨_, _⟩⟩ := ht
 obtain ⟨⟨_, _⟩, ⟨_, _⟩, ⟨_, _⟩, ⟨_, _⟩⟩ := hu
 generalize hv : vl s0 s1 s2 s3 = v at *
 clear hv
 unfold vl at *
 have e2' : t0 + t1 * 18446744073709551616 + t2 * 340282366920938463463374607431768211456 + t3 * 6277101735386680763835789423207666416102355444464034512896 = v + 19 := by omega
 clear e2
 have b : o2 = 0 ∨ o2 = 1 := by omega
 rcases b with b | b
 ·have h1 : t3 < 9223372036854775808 := by omega
  have h2 : v < 57896044618658097711785492504343953926634992332820282019728792003956564819949 := by omega
  have e3' : u0 + u1 * 18446744073709551616 + u2 * 340282366920938463463374607431768211456 + u3 * 6277101735386680763835789423207666416102355444464034512896 = v := by omega
  have h3 : u3 < 9223372036854775808 := by omega
  omega
 ·have h1 : 9223372036854775808 ≤ t3 := by omega
  have h2 : 57896044618658097711785492504343953926634992332820282019728792003956564819949 ≤ v := by omega
  have e3' : u0 + u1 * 18446744073709551616 + u2 * 340282366920938463463374607431768211456 + u3 * 6277101735386680763835789423207666416102355444464034512896 = v + 19 := by omega
  have h3 : 9223372036854775808 ≤ u3 := by omega
  have h4 : v % 57896044618658097711785492504343953926634992332820282019728792003956564819949 = v - 57896044618658097711785492504343953926634992332820282019728792003956564819949 := by omega
  have h5 : q = u3 - 9223372036854775808 := by omega
  omega

set_option maxHeartbeats 2000000 in
theorem reduce_any (a0 a1 a2 a3 h : Int) (ha : Wd4 a0 a1 a2 a3) (hh : 0 ≤ h ∧ h < 288230376151711744) (w : World) :
  Calls Tryz.prog 92 #[(.agg #[.int .u64 a0, .int .u64 a1, .int .u64 a2, .int .u64 a3]), .int .u64 h] w fun e w' =>
   ∃ s0 s1 s2 s3, e = .returned (.agg #[.int .u64 s0, .int .u64 s1, .int .u64 s2, .int .u64 s3]) ∧ Wd4 s0 s1 s2 s3 ∧ Hid (vl s0 s1 s2 s3 = (vl a0 a1 a2 a3 + h * 115792089237316195423570985008687907853269984665640564039457584007913129639936) % 57896044618658097711785492504343953926634992332820282019728792003956564819949) ∧ Below w.heap.size w w' := by
 have HA : Hid (Wd4 a0 a1 a2 a3) := ha
 obtain ⟨h0, h1⟩ := hh
 have m3 := mask63 a3 ha.h3
 have mo := or_top h a3 h0 h1 ha.h3
 obtain ⟨ha0, ha1, ha2, a30, a31⟩ := ha
 have br : 0 ≤ a3 % 9223372036854775808 ∧ a3 % 9223372036854775808 < 9223372036854775808 := by omega
 have bo : 0 ≤ h * 2 + a3 / 9223372036854775808 ∧ h * 2 + a3 / 9223372036854775808 < 576460752303423488 := by omega
 generalize hr : a3 % 9223372036854775808 = r at *
 generalize ho : h * 2 + a3 / 9223372036854775808 = o at *
 have HR : Hid (r = a3 % 9223372036854775808) := hr.symm
 have HO : Hid (o = h * 2 + a3 / 9223372036854775808) := ho.symm
 clear hr ho
 obtain ⟨br0, br1⟩ := br
 obtain ⟨bo0, bo1⟩ := bo
 have z : Wd 0 := ⟨by decide, by decide⟩
 go_enter Tryz.func92, Tryz.ntmps92
 go_wp2_with fail
 refine (plus_any _ _ _ _ _ _ _ _ ⟨ha0, ha1, ha2, ⟨by omega, by omega⟩⟩ ⟨⟨by omega, by omega⟩, z, z, z⟩ _).mono ?_
 rintro e w1 ⟨s0, s1, s2, s3, rfl, hs, he, hb⟩
 have HS : Hid (Wd4 s0 s1 s2 s3) := hs
 have HE1 : Hid (vl s0 s1 s2 s3 = (vl a0 a1 a2 r + vl (19 * o) 0 0 0) % 115792089237316195423570985008687907853269984665640564039457584007913129639936) := he
 have HB : Hid (Below w.heap.size w w1) := (bel2 _ _ _).trans (hb.mono (by simp; omega))
 have hz : w.heap.size + 1 < w1.heap.size := by have := hb.size; simp at this; omega
 have ac0' : w1.cell? ⟨w.heap.size, 0, none⟩ = some (.int .u64 a0) := cell_later hb (by simp [go_sem])
 have af0' : w1.frozen? ⟨w.heap.size, 0, none⟩ = false := froz_later hb (by first | omega | (simp <;> omega)) (by simp [go_sem])
 have ac1' : w1.cell? ⟨w.heap.size, 1, none⟩ = some (.int .u64 a1) := cell_later hb (by simp [go_sem])
 have af1' : w1.frozen? ⟨w.heap.size, 1, none⟩ = false := froz_later hb (by first | omega | (simp <;> omega)) (by simp [go_sem])
 have ac2' : w1.cell? ⟨w.heap.size, 2, none⟩ = some (.int .u64 a2) := cell_later hb (by simp [go_sem])
 have af2' : w1.frozen? ⟨w.heap.size, 2, none⟩ = false := froz_later hb (by first | omega | (simp <;> omega)) (by simp [go_sem])
 have ac3' : w1.cell? ⟨w.heap.size, 3, none⟩ = some (.int .u64 r) := cell_later hb (by simp [go_sem])
 have af3' : w1.frozen? ⟨w.heap.size, 3, none⟩ = false := froz_later hb (by first | omega | (simp <;> omega)) (by simp [go_sem])
 have dc0' : w1.cell? ⟨w.heap.size + 1, 0, none⟩ = some (.int .u64 0) := cell_later hb (by simp [go_sem])
 have df0' : w1.frozen? ⟨w.heap.size + 1, 0, none⟩ = false := froz_later hb (by first | omega | (simp <;> omega)) (by simp [go_sem])
 have dc1' : w1.cell? ⟨w.heap.size + 1, 1, none⟩ = some (.int .u64 0) := cell_later hb (by simp [go_sem])
 have df1' : w1.frozen? ⟨w.heap.size + 1, 1, none⟩ = false := froz_later hb (by first | omega | (simp <;> omega)) (by simp [go_sem])
 have dc2' : w1.cell? ⟨w.heap.size + 1, 2, none⟩ = some (.int .u64 0) := cell_later hb (by simp [go_sem])
 have df2' : w1.frozen? ⟨w.heap.size + 1, 2, none⟩ = false := froz_later hb (by first | omega | (simp <;> omega)) (by simp [go_sem])
 have dc3' : w1.cell? ⟨w.heap.size + 1, 3, none⟩ = some (.int .u64 0) := cell_later hb (by simp [go_sem])
 have df3' : w1.frozen? ⟨w.heap.size + 1, 3, none⟩ = false := froz_later hb (by first | omega | (simp <;> omega)) (by simp [go_sem])
 have ac0 := ac0'
 have af0 := af0'
 have ac1 := ac1'
 have af1 := af1'
 have ac2 := ac2'
 have af2 := af2'
 have ac3 := ac3'
 have af3 := af3'
 have dc0 := dc0'
 have df0 := df0'
 have dc1 := dc1'
 have df1 := df1'
 have dc2 := dc2'
 have df2 := df2'
 have dc3 := dc3'
 have df3 := df3'
 clear ac0' af0' ac1' af1' ac2' af2' ac3' af3' dc0' df0' dc1' df1' dc2' df2' dc3' df3'
 clear hb he hs m3 mo
 go_wp2_with fail
 refine (plus_any _ _ _ _ _ _ _ _ HS.out ⟨⟨by decide, by decide⟩, z, z, z⟩ _).mono ?_
 rintro e w2 ⟨t0, t1, t2, t3, rfl, ht, he, hb⟩
 have HT : Hid (Wd4 t0 t1 t2 t3) := ht
 have HE2 : Hid (vl t0 t1 t2 t3 = (vl s0 s1 s2 s3 + vl 19 0 0 0) % 115792089237316195423570985008687907853269984665640564039457584007913129639936) := he
 replace HB : Hid (Below w.heap.size w w2) := (((((HB.out.setCell (Nat.le_refl _) _).setCell (Nat.le_refl _) _).setCell (Nat.le_refl _) _).setCell (Nat.le_refl _) _)).trans (hb.mono (by simp; omega))
 have hz2 : w.heap.size + 1 < w2.heap.size := by have := hb.size; simp at this; omega
 have ac0' : w2.cell? ⟨w.heap.size, 0, none⟩ = some (.int .u64 s0) := cell_later hb (by simp [go_sem, ac0])
 have af0' : w2.frozen? ⟨w.heap.size, 0, none⟩ = false := froz_later hb (by first | omega | (simp <;> omega)) (by simp [go_sem, af0])
 have ac1' : w2.cell? ⟨w.heap.size, 1, none⟩ = some (.int .u64 s1) := cell_later hb (by simp [go_sem, ac1])
 have af1' : w2.frozen? ⟨w.heap.size, 1, none⟩ = false := froz_later hb (by first | omega | (simp <;> omega)) (by simp [go_sem, af1])
 have ac2' : w2.cell? ⟨w.heap.size, 2, none⟩ = some (.int .u64 s2) := cell_later hb (by simp [go_sem, ac2])
 have af2' : w2.frozen? ⟨w.heap.size, 2, none⟩ = false := froz_later hb (by first | omega | (simp <;> omega)) (by simp [go_sem, af2])
 have ac3' : w2.cell? ⟨w.heap.size, 3, none⟩ = some (.int .u64 s3) := cell_later hb (by simp [go_sem, ac3])
 have af3' : w2.frozen? ⟨w.heap.size, 3, none⟩ = false := froz_later hb (by first | omega | (simp <;> omega)) (by simp [go_sem, af3])
 have dc0' : w2.cell? ⟨w.heap.size + 1, 0, none⟩ = some (.int .u64 0) := cell_later hb (by simp [go_sem, dc0])
 have df0' : w2.frozen? ⟨w.heap.size + 1, 0, none⟩ = false := froz_later hb (by first | omega | (simp <;> omega)) (by simp [go_sem, df0])
 have dc1' : w2.cell? ⟨w.heap.size + 1, 1, none⟩ = some (.int .u64 0) := cell_later hb (by simp [go_sem, dc1])
 have df1' : w2.frozen? ⟨w.heap.size + 1, 1, none⟩ = false := froz_later hb (by first | omega | (simp <;> omega)) (by simp [go_sem, df1])
 have dc2' : w2.cell? ⟨w.heap.size + 1, 2, none⟩ = some (.int .u64 0) := cell_later hb (by simp [go_sem, dc2])
 have df2' : w2.frozen? ⟨w.heap.size + 1, 2, none⟩ = false := froz_later hb (by first | omega | (simp <;> omega)) (by simp [go_sem, df2])
 have dc3' : w2.cell? ⟨w.heap.size + 1, 3, none⟩ = some (.int .u64 0) := cell_later hb (by simp [go_sem, dc3])
 have df3' : w2.frozen? ⟨w.heap.size + 1, 3, none⟩ = false := froz_later hb (by first | omega | (simp <;> omega)) (by simp [go_sem, df3])
 clear ac0 af0 ac1 af1 ac2 af2 ac3 af3 dc0 df0 dc1 df1 dc2 df2 dc3 df3
 have ac0 := ac0'
 have af0 := af0'
 have ac1 := ac1'
 have af1 := af1'
 have ac2 := ac2'
 have af2 := af2'
 have ac3 := ac3'
 have af3 := af3'
 have dc0 := dc0'
 have df0 := df0'
 have dc1 := dc1'
 have df1 := df1'
 have dc2 := dc2'
 have df2 := df2'
 have dc3 := dc3'
 have df3 := df3'
 clear ac0' af0' ac1' af1' ac2' af2' ac3' af3' dc0' df0' dc1' df1' dc2' df2' dc3' df3'
 clear hb he
 obtain ⟨_, _, _, t30, t31⟩ := ht
 have bt0 : 0 ≤ t3 / 9223372036854775808 := by omega
 have bt1 : t3 / 9223372036854775808 ≤ 1 := by omega
 generalize ho : t3 / 9223372036854775808 = o2 at *
 have HO2 : Hid (t3 / 9223372036854775808 = o2) := ho
 clear hz w1
 have hft := field_top t0 t1 t2 t3
 go_wp2_with fail
 clear ho
 refine (plus_any _ _ _ _ _ _ _ _ HS.out ⟨⟨by omega, by omega⟩, z, z, z⟩ _).mono ?_
 rintro e w3 ⟨u0, u1, u2, u3, rfl, hu, he, hb⟩
 have HU : Hid (Wd4 u0 u1 u2 u3) := hu
 have HE3 : Hid (vl u0 u1 u2 u3 = (vl s0 s1 s2 s3 + vl (19 * o2) 0 0 0) % 115792089237316195423570985008687907853269984665640564039457584007913129639936) := he
 replace HB : Hid (Below w.heap.size w w3) := HB.out.trans (hb.mono (by omega))
 have ac0' : w3.cell? ⟨w.heap.size, 0, none⟩ = some (.int .u64 s0) := cell_later hb (by simp [go_sem, ac0])
 have af0' : w3.frozen? ⟨w.heap.size, 0, none⟩ = false := froz_later hb (by first | omega | (simp <;> omega)) (by simp [go_sem, af0])
 have ac1' : w3.cell? ⟨w.heap.size, 1, none⟩ = some (.int .u64 s1) := cell_later hb (by simp [go_sem, ac1])
 have af1' : w3.frozen? ⟨w.heap.size, 1, none⟩ = false := froz_later hb (by first | omega | (simp <;> omega)) (by simp [go_sem, af1])
 have ac2' : w3.cell? ⟨w.heap.size, 2, none⟩ = some (.int .u64 s2) := cell_later hb (by simp [go_sem, ac2])
 have af2' : w3.frozen? ⟨w.heap.size, 2, none⟩ = false := froz_later hb (by first | omega | (simp <;> omega)) (by simp [go_sem, af2])
 have ac3' : w3.cell? ⟨w.heap.size, 3, none⟩ = some (.int .u64 s3) := cell_later hb (by simp [go_sem, ac3])
 have af3' : w3.frozen? ⟨w.heap.size, 3, none⟩ = false := froz_later hb (by first | omega | (simp <;> omega)) (by simp [go_sem, af3])
 have dc0' : w3.cell? ⟨w.heap.size + 1, 0, none⟩ = some (.int .u64 0) := cell_later hb (by simp [go_sem, dc0])
 have df0' : w3.frozen? ⟨w.heap.size + 1, 0, none⟩ = false := froz_later hb (by first | omega | (simp <;> omega)) (by simp [go_sem, df0])
 have dc1' : w3.cell? ⟨w.heap.size + 1, 1, none⟩ = some (.int .u64 0) := cell_later hb (by simp [go_sem, dc1])
 have df1' : w3.frozen? ⟨w.heap.size + 1, 1, none⟩ = false := froz_later hb (by first | omega | (simp <;> omega)) (by simp [go_sem, df1])
 have dc2' : w3.cell? ⟨w.heap.size + 1, 2, none⟩ = some (.int .u64 0) := cell_later hb (by simp [go_sem, dc2])
 have df2' : w3.frozen? ⟨w.heap.size + 1, 2, none⟩ = false := froz_later hb (by first | omega | (simp <;> omega)) (by simp [go_sem, df2])
 have dc3' : w3.cell? ⟨w.heap.size + 1, 3, none⟩ = some (.int .u64 0) := cell_later hb (by simp [go_sem, dc3])
 have df3' : w3.frozen? ⟨w.heap.size + 1, 3, none⟩ = false := froz_later hb (by first | omega | (simp <;> omega)) (by simp [go_sem, df3])
 clear ac0 af0 ac1 af1 ac2 af2 ac3 af3 dc0 df0 dc1 df1 dc2 df2 dc3 df3
 have ac0 := ac0'
 have af0 := af0'
 have ac1 := ac1'
 have af1 := af1'
 have ac2 := ac2'
 have af2 := af2'
 have ac3 := ac3'
 have af3 := af3'
 have dc0 := dc0'
 have df0 := df0'
 have dc1 := dc1'
 have df1 := df1'
 have dc2 := dc2'
 have df2 := df2'
 have dc3 := dc3'
 have df3 := df3'
 clear ac0' af0' ac1' af1' ac2' af2' ac3' af3' dc0' df0' dc1' df1' dc2' df2' dc3' df3'
 clear hb he hz2
 have m3 := mask63 u3 hu.h3
 generalize hq : u3 % 9223372036854775808 = q at m3
 have HQ : Hid (q = u3 % 9223372036854775808) := hq.symm
 clear hu w2 hq hft
 go_upto_region 6 with fail
 have ac0' : ((((w3.setCell ⟨w.heap.size, 0, none⟩ (.int .u64 u0)).setCell ⟨w.heap.size, 1, none⟩ (.int .u64 u1)).setCell ⟨w.heap.size, 2, none⟩ (.int .u64 u2)).setCell ⟨w.heap.size, 3, none⟩ (.int .u64 u3)).cell? ⟨w.heap.size, 0, none⟩ = some (.int .u64 u0) := by simp [go_sem, ac0]
 have af0' : ((((w3.setCell ⟨w.heap.size, 0, none⟩ (.int .u64 u0)).setCell ⟨w.heap.size, 1, none⟩ (.int .u64 u1)).setCell ⟨w.heap.size, 2, none⟩ (.int .u64 u2)).setCell ⟨w.heap.size, 3, none⟩ (.int .u64 u3)).frozen? ⟨w.heap.size, 0, none⟩ = false := by simp [go_sem, af0]
 have ac1' : ((((w3.setCell ⟨w.heap.size, 0, none⟩ (.int .u64 u0)).setCell ⟨w.heap.size, 1, none⟩ (.int .u64 u1)).setCell ⟨w.heap.size, 2, none⟩ (.int .u64 u2)).setCell ⟨w.heap.size, 3, none⟩ (.int .u64 u3)).cell? ⟨w.heap.size, 1, none⟩ = some (.int .u64 u1) := by simp [go_sem, ac1]
 have af1' : ((((w3.setCell ⟨w.heap.size, 0, none⟩ (.int .u64 u0)).setCell ⟨w.heap.size, 1, none⟩ (.int .u64 u1)).setCell ⟨w.heap.size, 2, none⟩ (.int .u64 u2)).setCell ⟨w.heap.size, 3, none⟩ (.int .u64 u3)).frozen? ⟨w.heap.size, 1, none⟩ = false := by simp [go_sem, af1]
 have ac2' : ((((w3.setCell ⟨w.heap.size, 0, none⟩ (.int .u64 u0)).setCell ⟨w.heap.size, 1, none⟩ (.int .u64 u1)).setCell ⟨w.heap.size, 2, none⟩ (.int .u64 u2)).setCell ⟨w.heap.size, 3, none⟩ (.int .u64 u3)).cell? ⟨w.heap.size, 2, none⟩ = some (.int .u64 u2) := by simp [go_sem, ac2]
 have af2' : ((((w3.setCell ⟨w.heap.size, 0, none⟩ (.int .u64 u0)).setCell ⟨w.heap.size, 1, none⟩ (.int .u64 u1)).setCell ⟨w.heap.size, 2, none⟩ (.int .u64 u2)).setCell ⟨w.heap.size, 3, none⟩ (.int .u64 u3)).frozen? ⟨w.heap.size, 2, none⟩ = false := by simp [go_sem, af2]
 have ac3' : ((((w3.setCell ⟨w.heap.size, 0, none⟩ (.int .u64 u0)).setCell ⟨w.heap.size, 1, none⟩ (.int .u64 u1)).setCell ⟨w.heap.size, 2, none⟩ (.int .u64 u2)).setCell ⟨w.heap.size, 3, none⟩ (.int .u64 u3)).cell? ⟨w.heap.size, 3, none⟩ = some (.int .u64 u3) := by simp [go_sem, ac3]
 have af3' : ((((w3.setCell ⟨w.heap.size, 0, none⟩ (.int .u64 u0)).setCell ⟨w.heap.size, 1, none⟩ (.int .u64 u1)).setCell ⟨w.heap.size, 2, none⟩ (.int .u64 u2)).setCell ⟨w.heap.size, 3, none⟩ (.int .u64 u3)).frozen? ⟨w.heap.size, 3, none⟩ = false := by simp [go_sem, af3]
 have dc0' : ((((w3.setCell ⟨w.heap.size, 0, none⟩ (.int .u64 u0)).setCell ⟨w.heap.size, 1, none⟩ (.int .u64 u1)).setCell ⟨w.heap.size, 2, none⟩ (.int .u64 u2)).setCell ⟨w.heap.size, 3, none⟩ (.int .u64 u3)).cell? ⟨w.heap.size + 1, 0, none⟩ = some (.int .u64 0) := by simp [go_sem, dc0]
 have df0' : ((((w3.setCell ⟨w.heap.size, 0, none⟩ (.int .u64 u0)).setCell ⟨w.heap.size, 1, none⟩ (.int .u64 u1)).setCell ⟨w.heap.size, 2, none⟩ (.int .u64 u2)).setCell ⟨w.heap.size, 3, none⟩ (.int .u64 u3)).frozen? ⟨w.heap.size + 1, 0, none⟩ = false := by simp [go_sem, df0]
 have dc1' : ((((w3.setCell ⟨w.heap.size, 0, none⟩ (.int .u64 u0)).setCell ⟨w.heap.size, 1, none⟩ (.int .u64 u1)).setCell ⟨w.heap.size, 2, none⟩ (.int .u64 u2)).setCell ⟨w.heap.size, 3, none⟩ (.int .u64 u3)).cell? ⟨w.heap.size + 1, 1, none⟩ = some (.int .u64 0) := by simp [go_sem, dc1]
 have df1' : ((((w3.setCell ⟨w.heap.size, 0, none⟩ (.int .u64 u0)).setCell ⟨w.heap.size, 1, none⟩ (.int .u64 u1)).setCell ⟨w.heap.size, 2, none⟩ (.int .u64 u2)).setCell ⟨w.heap.size, 3, none⟩ (.int .u64 u3)).frozen? ⟨w.heap.size + 1, 1, none⟩ = false := by simp [go_sem, df1]
 have dc2' : ((((w3.setCell ⟨w.heap.size, 0, none⟩ (.int .u64 u0)).setCell ⟨w.heap.size, 1, none⟩ (.int .u64 u1)).setCell ⟨w.heap.size, 2, none⟩ (.int .u64 u2)).setCell ⟨w.heap.size, 3, none⟩ (.int .u64 u3)).cell? ⟨w.heap.size + 1, 2, none⟩ = some (.int .u64 0) := by simp [go_sem, dc2]
 have df2' : ((((w3.setCell ⟨w.heap.size, 0, none⟩ (.int .u64 u0)).setCell ⟨w.heap.size, 1, none⟩ (.int .u64 u1)).setCell ⟨w.heap.size, 2, none⟩ (.int .u64 u2)).setCell ⟨w.heap.size, 3, none⟩ (.int .u64 u3)).frozen? ⟨w.heap.size + 1, 2, none⟩ = false := by simp [go_sem, df2]
 have dc3' : ((((w3.setCell ⟨w.heap.size, 0, none⟩ (.int .u64 u0)).setCell ⟨w.heap.size, 1, none⟩ (.int .u64 u1)).setCell ⟨w.heap.size, 2, none⟩ (.int .u64 u2)).setCell ⟨w.heap.size, 3, none⟩ (.int .u64 u3)).cell? ⟨w.heap.size + 1, 3, none⟩ = some (.int .u64 0) := by simp [go_sem, dc3]
 have df3' : ((((w3.setCell ⟨w.heap.size, 0, none⟩ (.int .u64 u0)).setCell ⟨w.heap.size, 1, none⟩ (.int .u64 u1)).setCell ⟨w.heap.size, 2, none⟩ (.int .u64 u2)).setCell ⟨w.heap.size, 3, none⟩ (.int .u64 u3)).frozen? ⟨w.heap.size + 1, 3, none⟩ = false := by simp [go_sem, df3]
 have HB' : Hid (Below w.heap.size w ((((w3.setCell ⟨w.heap.size, 0, none⟩ (.int .u64 u0)).setCell ⟨w.heap.size, 1, none⟩ (.int .u64 u1)).setCell ⟨w.heap.size, 2, none⟩ (.int .u64 u2)).setCell ⟨w.heap.size, 3, none⟩ (.int .u64 u3))) := ((((HB.out.setCell (by first | exact Nat.le_refl _ | exact Nat.le_add_right _ _) _).setCell (by first | exact Nat.le_refl _ | exact Nat.le_add_right _ _) _).setCell (by first | exact Nat.le_refl _ | exact Nat.le_add_right _ _) _).setCell (by first | exact Nat.le_refl _ | exact Nat.le_add_right _ _) _)
 clear ac0 af0 ac1 af1 ac2 af2 ac3 af3 dc0 df0 dc1 df1 dc2 df2 dc3 df3 HB
 generalize (((w3.setCell ⟨w.heap.size, 0, none⟩ (.int .u64 u0)).setCell ⟨w.heap.size, 1, none⟩ (.int .u64 u1)).setCell ⟨w.heap.size, 2, none⟩ (.int .u64 u2)).setCell ⟨w.heap.size, 3, none⟩ (.int .u64 u3) = w4 at *
 have ac0 := ac0'
 have af0 := af0'
 have ac1 := ac1'
 have af1 := af1'
 have ac2 := ac2'
 have af2 := af2'
 have ac3 := ac3'
 have af3 := af3'
 have dc0 := dc0'
 have df0 := df0'
 have dc1 := dc1'
 have df1 := df1'
 have dc2 := dc2'
 have df2 := df2'
 have dc3 := dc3'
 have df3 := df3'
 have HB := HB'
 clear ac0' af0' ac1' af1' ac2' af2' ac3' af3' dc0' df0' dc1' df1' dc2' df2' dc3' df3' HB'
 clear w3
 go_upto_region 7 with fail
 have ac0' : (w4.setCell ⟨w.heap.size, 3, none⟩ (.int .u64 q)).cell? ⟨w.heap.size, 0, none⟩ = some (.int .u64 u0) := by simp [go_sem, ac0]
 have af0' : (w4.setCell ⟨w.heap.size, 3, none⟩ (.int .u64 q)).frozen? ⟨w.heap.size, 0, none⟩ = false := by simp [go_sem, af0]
 have ac1' : (w4.setCell ⟨w.heap.size, 3, none⟩ (.int .u64 q)).cell? ⟨w.heap.size, 1, none⟩ = some (.int .u64 u1) := by simp [go_sem, ac1]
 have af1' : (w4.setCell ⟨w.heap.size, 3, none⟩ (.int .u64 q)).frozen? ⟨w.heap.size, 1, none⟩ = false := by simp [go_sem, af1]
 have ac2' : (w4.setCell ⟨w.heap.size, 3, none⟩ (.int .u64 q)).cell? ⟨w.heap.size, 2, none⟩ = some (.int .u64 u2) := by simp [go_sem, ac2]
 have af2' : (w4.setCell ⟨w.heap.size, 3, none⟩ (.int .u64 q)).frozen? ⟨w.heap.size, 2, none⟩ = false := by simp [go_sem, af2]
 have ac3' : (w4.setCell ⟨w.heap.size, 3, none⟩ (.int .u64 q)).cell? ⟨w.heap.size, 3, none⟩ = some (.int .u64 q) := by simp [go_sem, ac3]
 have af3' : (w4.setCell ⟨w.heap.size, 3, none⟩ (.int .u64 q)).frozen? ⟨w.heap.size, 3, none⟩ = false := by simp [go_sem, af3]
 have dc0' : (w4.setCell ⟨w.heap.size, 3, none⟩ (.int .u64 q)).cell? ⟨w.heap.size + 1, 0, none⟩ = some (.int .u64 0) := by simp [go_sem, dc0]
 have df0' : (w4.setCell ⟨w.heap.size, 3, none⟩ (.int .u64 q)).frozen? ⟨w.heap.size + 1, 0, none⟩ = false := by simp [go_sem, df0]
 have dc1' : (w4.setCell ⟨w.heap.size, 3, none⟩ (.int .u64 q)).cell? ⟨w.heap.size + 1, 1, none⟩ = some (.int .u64 0) := by simp [go_sem, dc1]
 have df1' : (w4.setCell ⟨w.heap.size, 3, none⟩ (.int .u64 q)).frozen? ⟨w.heap.size + 1, 1, none⟩ = false := by simp [go_sem, df1]
 have dc2' : (w4.setCell ⟨w.heap.size, 3, none⟩ (.int .u64 q)).cell? ⟨w.heap.size + 1, 2, none⟩ = some (.int .u64 0) := by simp [go_sem, dc2]
 have df2' : (w4.setCell ⟨w.heap.size, 3, none⟩ (.int .u64 q)).frozen? ⟨w.heap.size + 1, 2, none⟩ = false := by simp [go_sem, df2]
 have dc3' : (w4.setCell ⟨w.heap.size, 3, none⟩ (.int .u64 q)).cell? ⟨w.heap.size + 1, 3, none⟩ = some (.int .u64 0) := by simp [go_sem, dc3]
 have df3' : (w4.setCell ⟨w.heap.size, 3, none⟩ (.int .u64 q)).frozen? ⟨w.heap.size + 1, 3, none⟩ = false := by simp [go_sem, df3]
 have HB' : Hid (Below w.heap.size w (w4.setCell ⟨w.heap.size, 3, none⟩ (.int .u64 q))) := (HB.out.setCell (by first | exact Nat.le_refl _ | exact Nat.le_add_right _ _) _)
 clear ac0 af0 ac1 af1 ac2 af2 ac3 af3 dc0 df0 dc1 df1 dc2 df2 dc3 df3 HB
 generalize w4.setCell ⟨w.heap.size, 3, none⟩ (.int .u64 q) = w5 at *
 have ac0 := ac0'
 have af0 := af0'
 have ac1 := ac1'
 have af1 := af1'
 have ac2 := ac2'
 have af2 := af2'
 have ac3 := ac3'
 have af3 := af3'
 have dc0 := dc0'
 have df0 := df0'
 have dc1 := dc1'
 have df1 := df1'
 have dc2 := dc2'
 have df2 := df2'
 have dc3 := dc3'
 have df3 := df3'
 have HB := HB'
 clear ac0' af0' ac1' af1' ac2' af2' ac3' af3' dc0' df0' dc1' df1' dc2' df2' dc3' df3' HB'
 clear w4
 go_wp2
 refine bodyPost_ret (v := (.agg #[.int .u64 u0, .int .u64 u1, .int .u64 u2, .int .u64 q])) (by simp [results, Tryz.results92, go_sem, dc0, dc1, dc2, dc3]) rfl ⟨_, _, _, _, rfl, ?_, ?_, ?_⟩
 ·obtain ⟨x0, x1, x2, x3⟩ := HU.out
  have := HQ.out
  exact ⟨x0, x1, x2, ⟨by omega, by omega⟩⟩
 ·obtain ⟨p0, p1, p2⟩ := red1 _ a0 a1 a2 a3 r o h HR.out HO.out h0 h1 HA.out HE1.out
  unfold Hid
  rw [← p2]
  exact red2 _ _ _ _ _ _ _ _ _ _ _ _ _ _ HT.out HU.out p0 p1 HE2.out HO2.out.symm HE3.out HQ.out
 ·exact (((HB.out.setCell (Nat.le_add_right _ _) _).setCell (Nat.le_add_right _ _) _).setCell (Nat.le_add_right _ _) _).setCell (Nat.le_add_right _ _) _
end Go.Proofs.YtlnbjehimabaiaaGreatDoor.Fc
