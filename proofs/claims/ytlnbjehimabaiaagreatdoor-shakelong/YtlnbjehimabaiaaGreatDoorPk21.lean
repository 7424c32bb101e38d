/-
  Several texts of one's own, laid together. No statement of the seat is proved here.
-/
import Derived.Test.YtlnbjehimabaiaaGreatDoorPk20
/-
 What field's Mul does, for whatever numbers below p. No statement of the seat is proved here.
-/
namespace Go.Proofs.YtlnbjehimabaiaaGreatDoor.Fc
open Go.RowKit
set_option maxRecDepth 8000

/-- A letter for the world. -/
theorem letter {P : World → Prop} {w : World} (h : ∀ W, W = w → P W) : P w := h w rfl
/-- A variable of four words. -/
structure Q4 (u : World) (b : Nat) (a0 a1 a2 a3 : Int) : Prop where
 c0 : u.cell? ⟨b, 0, none⟩ = some (.int .u64 a0)
 c1 : u.cell? ⟨b, 1, none⟩ = some (.int .u64 a1)
 c2 : u.cell? ⟨b, 2, none⟩ = some (.int .u64 a2)
 c3 : u.cell? ⟨b, 3, none⟩ = some (.int .u64 a3)
 f0 : u.frozen? ⟨b, 0, none⟩ = false
 f1 : u.frozen? ⟨b, 1, none⟩ = false
 f2 : u.frozen? ⟨b, 2, none⟩ = false
 f3 : u.frozen? ⟨b, 3, none⟩ = false
section
variable {u v : World} {b c d i : Nat} {a0 a1 a2 a3 : Int} {x x0 x1 x2 x3 : Value}
theorem Q4.lt (h : Q4 u b a0 a1 a2 a3) : b < u.heap.size := World.block_lt_of_cell? u _ h.c0
theorem Q4.later (h : Q4 u b a0 a1 a2 a3) (hb : Below u.heap.size u v) : Q4 v b a0 a1 a2 a3 := ⟨cell_later hb h.c0, cell_later hb h.c1, cell_later hb h.c2, cell_later hb h.c3, froz_later hb h.lt h.f0, froz_later hb h.lt h.f1, froz_later hb h.lt h.f2, froz_later hb h.lt h.f3⟩
theorem q4_new (u : World) (a0 a1 a2 a3 : Int) (t : TypeId) : Q4 (u.alloc (.cells #[.int .u64 a0, .int .u64 a1, .int .u64 a2, .int .u64 a3] t)) u.heap.size a0 a1 a2 a3 := by constructor <;> simp [go_sem]
theorem Q4.is (e : v = u) (h : Q4 u b a0 a1 a2 a3) : Q4 v b a0 a1 a2 a3 := e ▸ h
theorem Q4.at (h : Q4 u b a0 a1 a2 a3) (e : b = c) : Q4 u c a0 a1 a2 a3 := e ▸ h
theorem Q4.else (h : Q4 u b a0 a1 a2 a3) (hc : b ≠ c) : Q4 (u.setCell ⟨c, i, none⟩ x) b a0 a1 a2 a3 := by
 obtain ⟨c0, c1, c2, c3, f0, f1, f2, f3⟩ := h
 constructor <;> first | (rw [World.cell?_setCell_other _ _ _ _ (by simp <;> omega)]; assumption) | (rw [World.frozen?_setCell]; assumption)
theorem Q4.else4 (h : Q4 u b a0 a1 a2 a3) (hd : b ≠ d) : Q4 ((((u.setCell ⟨d, 0, none⟩ x0).setCell ⟨d, 1, none⟩ x1).setCell ⟨d, 2, none⟩ x2).setCell ⟨d, 3, none⟩ x3) b a0 a1 a2 a3 := (((h.else hd).else hd).else hd).else hd
theorem Q4.s0 (h : Q4 u b a0 a1 a2 a3) (n : Int) : Q4 (u.setCell ⟨b, 0, none⟩ (.int .u64 n)) b n a1 a2 a3 := by
 obtain ⟨c0, c1, c2, c3, f0, f1, f2, f3⟩ := h
 constructor <;> simp [go_sem, c0, c1, c2, c3, f0, f1, f2, f3]
theorem Q4.s1 (h : Q4 u b a0 a1 a2 a3) (n : Int) : Q4 (u.setCell ⟨b, 1, none⟩ (.int .u64 n)) b a0 n a2 a3 := by
 obtain ⟨c0, c1, c2, c3, f0, f1, f2, f3⟩ := h
 constructor <;> simp [go_sem, c0, c1, c2, c3, f0, f1, f2, f3]
theorem Q4.s2 (h : Q4 u b a0 a1 a2 a3) (n : Int) : Q4 (u.setCell ⟨b, 2, none⟩ (.int .u64 n)) b a0 a1 n a3 := by
 obtain ⟨c0, c1, c2, c3, f0, f1, f2, f3⟩ := h
 constructor <;> simp [go_sem, c0, c1, c2, c3, f0, f1, f2, f3]
theorem Q4.s3 (h : Q4 u b a0 a1 a2 a3) (n : Int) : Q4 (u.setCell ⟨b, 3, none⟩ (.int .u64 n)) b a0 a1 a2 n := by
 obtain ⟨c0, c1, c2, c3, f0, f1, f2, f3⟩ := h
 constructor <;> simp [go_sem, c0, c1, c2, c3, f0, f1, f2, f3]
theorem Q4.set (h : Q4 u b a0 a1 a2 a3) (n0 n1 n2 n3 : Int) : Q4 ((((u.setCell ⟨b, 0, none⟩ (.int .u64 n0)).setCell ⟨b, 1, none⟩ (.int .u64 n1)).setCell ⟨b, 2, none⟩ (.int .u64 n2)).setCell ⟨b, 3, none⟩ (.int .u64 n3)) b n0 n1 n2 n3 := (((h.s0 n0).s1 n1).s2 n2).s3 n3
theorem below_s4 {B : Nat} (h : Below B v u) (hd : B ≤ d) : Below B v ((((u.setCell ⟨d, 0, none⟩ x0).setCell ⟨d, 1, none⟩ x1).setCell ⟨d, 2, none⟩ x2).setCell ⟨d, 3, none⟩ x3) :=
 (((h.setCell (p := ⟨d, 0, none⟩) hd _).setCell (p := ⟨d, 1, none⟩) hd _).setCell (p := ⟨d, 2, none⟩) hd _).setCell (p := ⟨d, 3, none⟩) hd _
end

theorem mul_sum (x y l0 l1 l2 l3 g0 g1 g2 g3 l V : Int) (hx : El x) (y0 : 0 ≤ y) (y1 : y < 57896044618658097711785492504343953926634992332820282019728792003956564819949) (b0 : Wd l0) (b1 : Wd l1) (b2 : Wd l2) (b3 : Wd l3)
  (q0 : l0 + g0 * 18446744073709551616 = 0 + e0 x * y) (q1 : l1 + g1 * 18446744073709551616 = g0 + e1 x * y) (q2 : l2 + g2 * 18446744073709551616 = g1 + e2 x * y) (q3 : l3 + g3 * 18446744073709551616 = g2 + e3 x * y)
  (q : l + V * 18446744073709551616 = vl l0 l1 l2 l3 + 38 * g3) : (l + V * 18446744073709551616) % 57896044618658097711785492504343953926634992332820282019728792003956564819949 = x * y % 57896044618658097711785492504343953926634992332820282019728792003956564819949 ∧ l + V * 18446744073709551616 < 39 * 115792089237316195423570985008687907853269984665640564039457584007913129639936 := by
 have e : x * y = vl l0 l1 l2 l3 + g3 * 115792089237316195423570985008687907853269984665640564039457584007913129639936 := by
  have hv := hx.vl
  have : x * y = vl (e0 x) (e1 x) (e2 x) (e3 x) * y := by rw [hv]
  rw [this]
  have ee : vl (e0 x) (e1 x) (e2 x) (e3 x) * y = vl (e0 x * y) (e1 x * y) (e2 x * y) (e3 x * y) := by
   rw [Int.mul_comm, mul_vl, Int.mul_comm y, Int.mul_comm y, Int.mul_comm y, Int.mul_comm y]
  rw [ee]
  clear ee
  generalize e0 x * y = m0 at *
  generalize e1 x * y = m1 at *
  generalize e2 x * y = m2 at *
  generalize e3 x * y = m3 at *
  unfold vl
  omega
 have hb : x * y < 57896044618658097711785492504343953926634992332820282019728792003956564819949 * 57896044618658097711785492504343953926634992332820282019728792003956564819949 := Int.lt_of_le_of_lt (Int.mul_le_mul (c := 57896044618658097711785492504343953926634992332820282019728792003956564819949 - 1) (d := 57896044618658097711785492504343953926634992332820282019728792003956564819949 - 1) (by have := hx.h1; omega) (by omega) y0 (by decide)) (by decide)
 obtain ⟨_, _⟩ := b0
 obtain ⟨_, _⟩ := b1
 obtain ⟨_, _⟩ := b2
 obtain ⟨_, _⟩ := b3
 constructor
 ·rw [q, e]
  have e3 : vl l0 l1 l2 l3 + g3 * 115792089237316195423570985008687907853269984665640564039457584007913129639936 = vl l0 l1 l2 l3 + 38 * g3 + 57896044618658097711785492504343953926634992332820282019728792003956564819949 * (2 * g3) := by omega
  rw [e3, Int.add_mul_emod_self_left]
 ·rw [q]
  generalize x * y = m at *
  unfold vl at *
  omega

set_option maxHeartbeats 4000000 in
theorem mul_e (x y : Int) (hx : El x) (hy : El y) (w : World) :
  Calls Tryz.prog 70 #[(.agg (ea x)), (.agg (ea y))] w fun e w' => ∃ z, e = .returned (.agg (ea z)) ∧ El z ∧ Hid (z = x * y % 57896044618658097711785492504343953926634992332820282019728792003956564819949) ∧ Below w.heap.size w w' := by
 have HY : Hid (vl (e0 y) (e1 y) (e2 y) (e3 y) = y) := hy.vl
 have HX := hx
 obtain ⟨x0, x1, x2, x3⟩ := hx.wd
 have hyw := hy.wd
 have z : Wd 0 := ⟨by decide, by decide⟩
 go_enter Tryz.func70, Tryz.ntmps70
 go_upto_region 2 with fail
 refine letter fun W hW => ?_
 have VX : Q4 W (w.heap.size) (e0 x) (e1 x) (e2 x) (e3 x) := by rw [hW]; exact ((((q4_new _ _ _ _ _ _).later (bel1 _ _)).later (bel1 _ _)).later (bel1 _ _)).later (bel1 _ _)
 have VY : Q4 W (w.heap.size + 1) (e0 y) (e1 y) (e2 y) (e3 y) := by rw [hW]; exact ((((q4_new _ _ _ _ _ _).later (bel1 _ _)).later (bel1 _ _)).later (bel1 _ _)).at (by simp)
 have VD : Q4 W (w.heap.size + 2) 0 0 0 0 := by rw [hW]; exact (((q4_new _ _ _ _ _ _).later (bel1 _ _)).later (bel1 _ _)).at (by simp)
 have VL : Q4 W (w.heap.size + 3) 0 0 0 0 := by rw [hW]; exact ((q4_new _ _ _ _ _ _).later (bel1 _ _)).at (by simp)
 have VH : Q4 W (w.heap.size + 4) 0 0 0 0 := by rw [hW]; exact (q4_new _ _ _ _ _ _).at (by simp)
 have HB : Below w.heap.size w W := by rw [hW]; exact ((((bel1 _ _).alloc (by simp) _).alloc (by simp; omega) _).alloc (by simp; omega) _).alloc (by simp; omega) _
 clear hW
 obtain ⟨xc0, xc1, xc2, xc3, -, -, -, -⟩ := id VX
 obtain ⟨yc0, yc1, yc2, yc3, -, -, -, -⟩ := id VY
 go_wp2_with fail
 refine (row_any _ _ _ _ _ _ _ _ _ ⟨z, z, z, z⟩ x0 hyw _).mono ?_
 rintro e w0 ⟨l0, g00, g01, g02, g03, rfl, hl0, hg0, HE0, hb⟩
 clear xc0 xc1 xc2 xc3 yc0 yc1 yc2 yc3
 replace VX := VX.later hb
 replace VY := VY.later hb
 replace VD := VD.later hb
 replace VL := VL.later hb
 replace VH := VH.later hb
 replace HB := HB.trans (hb.mono HB.size)
 clear hb
 obtain ⟨lc0, lc1, lc2, lc3, lf0, lf1, lf2, lf3⟩ := id VL
 obtain ⟨hc0, hc1, hc2, hc3, hf0, hf1, hf2, hf3⟩ := id VH
 go_upto_region 3 with fail
 refine letter fun W hW => ?_
 clear lc0 lc1 lc2 lc3 lf0 lf1 lf2 lf3 hc0 hc1 hc2 hc3 hf0 hf1 hf2 hf3
 replace VX := Q4.is hW ((VX.else (by omega)).else4 (by omega))
 replace VY := Q4.is hW ((VY.else (by omega)).else4 (by omega))
 replace VD := Q4.is hW ((VD.else (by omega)).else4 (by omega))
 replace VL := Q4.is hW ((VL.s0 _).else4 (by omega))
 replace VH := Q4.is hW ((VH.else (by omega)).set _ _ _ _)
 replace HB : Below w.heap.size w W := by rw [hW]; exact below_s4 (HB.setCell (p := ⟨_, _, none⟩) (by dsimp only; omega) _) (by omega)
 clear hW
 obtain ⟨xc0, xc1, xc2, xc3, -, -, -, -⟩ := id VX
 obtain ⟨yc0, yc1, yc2, yc3, -, -, -, -⟩ := id VY
 obtain ⟨hc0, hc1, hc2, hc3, -, -, -, -⟩ := id VH
 go_wp2_with fail
 refine (row_any _ _ _ _ _ _ _ _ _ hg0 x1 hyw _).mono ?_
 rintro e w1 ⟨l1, g10, g11, g12, g13, rfl, hl1, hg1, HE1, hb⟩
 clear xc0 xc1 xc2 xc3 yc0 yc1 yc2 yc3 hc0 hc1 hc2 hc3
 replace VX := VX.later hb
 replace VY := VY.later hb
 replace VD := VD.later hb
 replace VL := VL.later hb
 replace VH := VH.later hb
 replace HB := HB.trans (hb.mono HB.size)
 clear hb
 obtain ⟨lc0, lc1, lc2, lc3, lf0, lf1, lf2, lf3⟩ := id VL
 obtain ⟨hc0, hc1, hc2, hc3, hf0, hf1, hf2, hf3⟩ := id VH
 go_upto_region 4 with fail
 refine letter fun W hW => ?_
 clear lc0 lc1 lc2 lc3 lf0 lf1 lf2 lf3 hc0 hc1 hc2 hc3 hf0 hf1 hf2 hf3
 replace VX := Q4.is hW ((VX.else (by omega)).else4 (by omega))
 replace VY := Q4.is hW ((VY.else (by omega)).else4 (by omega))
 replace VD := Q4.is hW ((VD.else (by omega)).else4 (by omega))
 replace VL := Q4.is hW ((VL.s1 _).else4 (by omega))
 replace VH := Q4.is hW ((VH.else (by omega)).set _ _ _ _)
 replace HB : Below w.heap.size w W := by rw [hW]; exact below_s4 (HB.setCell (p := ⟨_, _, none⟩) (by dsimp only; omega) _) (by omega)
 clear hW
 obtain ⟨xc0, xc1, xc2, xc3, -, -, -, -⟩ := id VX
 obtain ⟨yc0, yc1, yc2, yc3, -, -, -, -⟩ := id VY
 obtain ⟨hc0, hc1, hc2, hc3, -, -, -, -⟩ := id VH
 go_wp2_with fail
 refine (row_any _ _ _ _ _ _ _ _ _ hg1 x2 hyw _).mono ?_
 rintro e w2 ⟨l2, g20, g21, g22, g23, rfl, hl2, hg2, HE2, hb⟩
 clear xc0 xc1 xc2 xc3 yc0 yc1 yc2 yc3 hc0 hc1 hc2 hc3
 replace VX := VX.later hb
 replace VY := VY.later hb
 replace VD := VD.later hb
 replace VL := VL.later hb
 replace VH := VH.later hb
 replace HB := HB.trans (hb.mono HB.size)
 clear hb
 obtain ⟨lc0, lc1, lc2, lc3, lf0, lf1, lf2, lf3⟩ := id VL
 obtain ⟨hc0, hc1, hc2, hc3, hf0, hf1, hf2, hf3⟩ := id VH
 go_upto_region 5 with fail
 refine letter fun W hW => ?_
 clear lc0 lc1 lc2 lc3 lf0 lf1 lf2 lf3 hc0 hc1 hc2 hc3 hf0 hf1 hf2 hf3
 replace VX := Q4.is hW ((VX.else (by omega)).else4 (by omega))
 replace VY := Q4.is hW ((VY.else (by omega)).else4 (by omega))
 replace VD := Q4.is hW ((VD.else (by omega)).else4 (by omega))
 replace VL := Q4.is hW ((VL.s2 _).else4 (by omega))
 replace VH := Q4.is hW ((VH.else (by omega)).set _ _ _ _)
 replace HB : Below w.heap.size w W := by rw [hW]; exact below_s4 (HB.setCell (p := ⟨_, _, none⟩) (by dsimp only; omega) _) (by omega)
 clear hW
 obtain ⟨xc0, xc1, xc2, xc3, -, -, -, -⟩ := id VX
 obtain ⟨yc0, yc1, yc2, yc3, -, -, -, -⟩ := id VY
 obtain ⟨hc0, hc1, hc2, hc3, -, -, -, -⟩ := id VH
 go_wp2_with fail
 refine (row_any _ _ _ _ _ _ _ _ _ hg2 x3 hyw _).mono ?_
 rintro e w3 ⟨l3, g30, g31, g32, g33, rfl, hl3, hg3, HE3, hb⟩
 clear xc0 xc1 xc2 xc3 yc0 yc1 yc2 yc3 hc0 hc1 hc2 hc3
 replace VX := VX.later hb
 replace VY := VY.later hb
 replace VD := VD.later hb
 replace VL := VL.later hb
 replace VH := VH.later hb
 replace HB := HB.trans (hb.mono HB.size)
 clear hb
 obtain ⟨lc0, lc1, lc2, lc3, lf0, lf1, lf2, lf3⟩ := id VL
 obtain ⟨hc0, hc1, hc2, hc3, hf0, hf1, hf2, hf3⟩ := id VH
 go_upto_region 6 with fail
 refine letter fun W hW => ?_
 clear lc0 lc1 lc2 lc3 lf0 lf1 lf2 lf3 hc0 hc1 hc2 hc3 hf0 hf1 hf2 hf3
 replace VX := Q4.is hW ((VX.else (by omega)).else4 (by omega))
 replace VY := Q4.is hW ((VY.else (by omega)).else4 (by omega))
 replace VD := Q4.is hW ((VD.else (by omega)).else4 (by omega))
 replace VL := Q4.is hW ((VL.s3 _).else4 (by omega))
 replace VH := Q4.is hW ((VH.else (by omega)).set _ _ _ _)
 replace HB : Below w.heap.size w W := by rw [hW]; exact below_s4 (HB.setCell (p := ⟨_, _, none⟩) (by dsimp only; omega) _) (by omega)
 clear hW
 clear hx
 obtain ⟨lc0, lc1, lc2, lc3, -, -, -, -⟩ := id VL
 obtain ⟨hc0, hc1, hc2, hc3, -, -, -, -⟩ := id VH
 go_wp2_with fail
 refine (row_any _ _ _ _ _ _ _ _ _ ⟨hl0, hl1, hl2, hl3⟩ ⟨by decide, by decide⟩ hg3 _).mono ?_
 rintro e w5 ⟨l, h0, h1, h2, h3, rfl, hl, hh, HE, hb⟩
 clear lc0 lc1 lc2 lc3 hc0 hc1 hc2 hc3
 replace VD := VD.later hb
 replace HB := HB.trans (hb.mono HB.size)
 clear hb
 have HV : Hid ((l + vl h0 h1 h2 h3 * 18446744073709551616) % 57896044618658097711785492504343953926634992332820282019728792003956564819949 = x * y % 57896044618658097711785492504343953926634992332820282019728792003956564819949 ∧ l + vl h0 h1 h2 h3 * 18446744073709551616 < 39 * 115792089237316195423570985008687907853269984665640564039457584007913129639936) := by
  have q0 := HE0.out
  have q1 := HE1.out
  have q2 := HE2.out
  have q3 := HE3.out
  rw [HY.out] at q0 q1 q2 q3
  have q := HE.out
  exact mul_sum x y l0 l1 l2 l3 _ _ _ _ l _ HX hy.h0 hy.h1 hl0 hl1 hl2 hl3 q0 q1 q2 q3 q
 have b3 : h3 < 288230376151711744 := by
  have h := HV.out.2
  obtain ⟨⟨_, _⟩, ⟨_, _⟩, ⟨_, _⟩, ⟨_, _⟩⟩ := hh
  obtain ⟨_, _⟩ := hl
  unfold vl at h
  omega
 go_wp2_with fail
 refine (reduceFive_any _ _ _ _ _ hl hh b3 _).mono ?_
 rintro e w6 ⟨z, rfl, hz2, HZ, hb⟩
 replace HB := HB.trans (hb.mono HB.size)
 obtain ⟨dc0, dc1, dc2, dc3, df0, df1, df2, df3⟩ := VD.later hb
 clear hb
 go_wp2
 refine bodyPost_ret (v := (.agg (ea z))) (by simp [results, Tryz.results70, go_sem, dc0, dc1, dc2, dc3]) rfl ⟨_, rfl, hz2, ?_, ?_⟩
 ·have := HZ.out
  unfold Hid
  rw [this, HV.out.1]
 ·exact below_s4 HB (by omega)
end Go.Proofs.YtlnbjehimabaiaaGreatDoor.Fc
/-
 What field's Equal, squared and Invert do, for whatever numbers below p. No statement of the seat is proved here.
-/
namespace Go.Proofs.YtlnbjehimabaiaaGreatDoor.Fc
open Go.RowKit
set_option maxRecDepth 8000

/-! ### Equal -/
theorem or_zero (a b : Int) (ha : Wd a) (hb : Wd b) : Wd (bits .or .u64 a b) ∧ (bits .or .u64 a b = 0 ↔ a = 0 ∧ b = 0) := by
 obtain ⟨a0, a1⟩ := ha
 obtain ⟨b0, b1⟩ := hb
 obtain ⟨a, rfl⟩ := Int.eq_ofNat_of_zero_le a0
 obtain ⟨b, rfl⟩ := Int.eq_ofNat_of_zero_le b0
 rw [bits_or_u64_nat a b (by omega) (by omega)]
 have h := Nat.or_lt_two_pow (n := 64) (x := a) (y := b) (by omega) (by omega)
 refine ⟨⟨by omega, by omega⟩, ?_⟩
 have := Nat.or_eq_zero_iff (n := a) (m := b)
 omega
theorem el_eq (x y : Int) (hx : El x) (hy : El y) : (bits .or .u64 (bits .or .u64 (bits .or .u64 (xo (e0 x) (e0 y)) (xo (e1 x) (e1 y))) (xo (e2 x) (e2 y))) (xo (e3 x) (e3 y)) = 0) ↔ x = y := by
 obtain ⟨x0, x1, x2, x3⟩ := hx.wd
 obtain ⟨y0, y1, y2, y3⟩ := hy.wd
 obtain ⟨p1, p2⟩ := or_zero _ _ (xo_wd _ _ x0 y0) (xo_wd _ _ x1 y1)
 obtain ⟨q1, q2⟩ := or_zero _ _ p1 (xo_wd _ _ x2 y2)
 obtain ⟨r1, r2⟩ := or_zero _ _ q1 (xo_wd _ _ x3 y3)
 rw [r2, q2, p2, xo_zero _ _ x0 y0, xo_zero _ _ x1 y1, xo_zero _ _ x2 y2, xo_zero _ _ x3 y3]
 constructor
 ·rintro ⟨⟨⟨a, b⟩, c⟩, d⟩
  rw [← hx.vl, ← hy.vl, a, b, c, d]
 ·rintro rfl
  exact ⟨⟨⟨rfl, rfl⟩, rfl⟩, rfl⟩
/-- Whether two numbers are the same. -/
def same (x y : Int) : Bool := decide (x = y)


/-! ### Powers -/
/-- A power, modulo p. -/
def pw (x : Int) (n : Nat) : Int := x ^ n % 57896044618658097711785492504343953926634992332820282019728792003956564819949
theorem pw_el (x : Int) (n : Nat) : El (pw x n) := El.mod _
theorem pw_one (x : Int) (h : El x) : pw x 1 = x := by
 unfold pw
 rw [Int.pow_succ, Int.pow_zero, Int.one_mul]
 exact Int.emod_eq_of_lt h.h0 h.h1
theorem pw_mul (x : Int) (n m : Nat) : pw x n * pw x m % 57896044618658097711785492504343953926634992332820282019728792003956564819949 = pw x (n + m) := by
 unfold pw
 rw [← Int.mul_emod, Int.pow_add]
theorem pw_sq (x : Int) (n k : Nat) : pw x (n * 2 ^ k) * pw x (n * 2 ^ k) % 57896044618658097711785492504343953926634992332820282019728792003956564819949 = pw x (n * 2 ^ (k + 1)) := by
 rw [pw_mul, Nat.pow_succ, ← Nat.mul_assoc]
 congr 1
 omega

set_option maxHeartbeats 2000000 in
theorem squared_e (x : Int) (n m : Nat) (hm : m ≤ 1000) (y : Int) (hy : El y) (HP : Hid (y = pw x n)) (w : World) :
  Calls Tryz.prog 100 #[(.agg (ea y)), .int .i64 m] w fun e w' => ∃ z, e = .returned (.agg (ea z)) ∧ El z ∧ Hid (z = pw x (n * 2 ^ m)) ∧ Below w.heap.size w w' := by
 go_enter Tryz.func100, Tryz.ntmps100
 go_wp2
 go_loopw [6] (fun i wl => ∃ (k : Nat) (z : Int), k ≤ m ∧ i = .int .i64 k ∧ El z ∧ Hid (z = pw x (n * 2 ^ k)) ∧ wl.cell? ⟨w.heap.size, 0, none⟩ = some (.int .u64 (e0 z)) ∧ wl.frozen? ⟨w.heap.size, 0, none⟩ = false ∧ wl.cell? ⟨w.heap.size, 1, none⟩ = some (.int .u64 (e1 z)) ∧ wl.frozen? ⟨w.heap.size, 1, none⟩ = false ∧ wl.cell? ⟨w.heap.size, 2, none⟩ = some (.int .u64 (e2 z)) ∧ wl.frozen? ⟨w.heap.size, 2, none⟩ = false ∧ wl.cell? ⟨w.heap.size, 3, none⟩ = some (.int .u64 (e3 z)) ∧ wl.frozen? ⟨w.heap.size, 3, none⟩ = false ∧ wl.cell? ⟨w.heap.size + 1, 0, none⟩ = some (.int .u64 0) ∧ wl.frozen? ⟨w.heap.size + 1, 0, none⟩ = false ∧ wl.cell? ⟨w.heap.size + 1, 1, none⟩ = some (.int .u64 0) ∧ wl.frozen? ⟨w.heap.size + 1, 1, none⟩ = false ∧ wl.cell? ⟨w.heap.size + 1, 2, none⟩ = some (.int .u64 0) ∧ wl.frozen? ⟨w.heap.size + 1, 2, none⟩ = false ∧ wl.cell? ⟨w.heap.size + 1, 3, none⟩ = some (.int .u64 0) ∧ wl.frozen? ⟨w.heap.size + 1, 3, none⟩ = false ∧ w.heap.size + 1 < wl.heap.size ∧ Hid (Below w.heap.size w wl)) (fun i _ => m - (intOf i).toNat)
 case atStart => exact ⟨0, y, Nat.zero_le _, rfl, hy, by unfold Hid; rw [Nat.pow_zero, Nat.mul_one]; exact HP.out, by simp [go_sem], by simp [go_sem], by simp [go_sem], by simp [go_sem], by simp [go_sem], by simp [go_sem], by simp [go_sem], by simp [go_sem], by simp [go_sem], by simp [go_sem], by simp [go_sem], by simp [go_sem], by simp [go_sem], by simp [go_sem], by simp [go_sem], by simp [go_sem], by simp, bel2 _ _ _⟩
 case round =>
  obtain ⟨k, z, hk, rfl, hz, HZ, ac0, af0, ac1, af1, ac2, af2, ac3, af3, dc0, df0, dc1, df1, dc2, df2, dc3, df3, hs, HB⟩ := hrel
  by_cases hlt : k < m
  ·go_wp2_with fail
   refine (mul_e z z hz hz _).mono ?_
   rintro e w1 ⟨v, rfl, hv, HV, hb⟩
   have HV' : Hid (v = pw x (n * 2 ^ (k + 1))) := by unfold Hid; rw [HV.out, HZ.out, pw_sq]
   replace HB : Hid (Below w.heap.size w w1) := HB.out.trans (hb.mono (by omega))
   have hs' : w.heap.size + 1 < w1.heap.size := by have := hb.size; omega
   have ac0' : w1.cell? ⟨w.heap.size, 0, none⟩ = some (.int .u64 (e0 z)) := cell_later hb (by simp [go_sem, ac0])
   have af0' : w1.frozen? ⟨w.heap.size, 0, none⟩ = false := froz_later hb (by first | omega | (simp <;> omega)) (by simp [go_sem, af0])
   have ac1' : w1.cell? ⟨w.heap.size, 1, none⟩ = some (.int .u64 (e1 z)) := cell_later hb (by simp [go_sem, ac1])
   have af1' : w1.frozen? ⟨w.heap.size, 1, none⟩ = false := froz_later hb (by first | omega | (simp <;> omega)) (by simp [go_sem, af1])
   have ac2' : w1.cell? ⟨w.heap.size, 2, none⟩ = some (.int .u64 (e2 z)) := cell_later hb (by simp [go_sem, ac2])
   have af2' : w1.frozen? ⟨w.heap.size, 2, none⟩ = false := froz_later hb (by first | omega | (simp <;> omega)) (by simp [go_sem, af2])
   have ac3' : w1.cell? ⟨w.heap.size, 3, none⟩ = some (.int .u64 (e3 z)) := cell_later hb (by simp [go_sem, ac3])
   have af3' : w1.frozen? ⟨w.heap.size, 3, none⟩ = false := froz_later hb (by first | omega | (simp <;> omega)) (by simp [go_sem, af3])
   have dc0' : w1.cell? ⟨w.heap.size + 1, 0, none⟩ = some (.int .u64 0) := cell_later hb (by simp [go_sem, dc0])
   have df0' : w1.frozen? ⟨w.heap.size + 1, 0, none⟩ = false := froz_later hb (by first | omega | (simp <;> omega)) (by simp [go_sem, df0])
   have dc1' : w1.cell? ⟨w.heap.size + 1, 1, none⟩ = some (.int .u64 0) := cell_later hb (by simp [go_sem, dc1])
   have df1' : w1.frozen? ⟨w.heap.size + 1, 1, none⟩ = false := froz_later hb (by first | omega | (simp <;> omega)) (by simp [go_sem, df1])
   have dc2' : w1.cell? ⟨w.heap.size + 1, 2, none⟩ = some (.int .u64 0) := cell_later hb (by simp [go_sem, dc2])
   have df2' : w1.frozen? ⟨w.heap.size + 1, 2, none⟩ = false := froz_later hb (by first | omega | (simp <;> omega)) (by simp [go_sem, df2])
   have dc3' : w1.cell? ⟨w.heap.size + 1, 3, none⟩ = some (.int .u64 0) := cell_later hb (by simp [go_sem, dc3])
   have df3' : w1.frozen? ⟨w.heap.size + 1, 3, none⟩ = false := froz_later hb (by first | omega | (simp <;> omega)) (by simp [go_sem, df3])
   clear ac0 af0 ac1 af1 ac2 af2 ac3 af3 dc0 df0 dc1 df1 dc2 df2 dc3 df3 hb HV hs
   have ac0 := ac0'
   have af0 := af0'
   have ac1 := ac1'
   have af1 := af1'
   have ac2 := ac2'
   have af2 := af2'
   have ac3 := ac3'
   have af3 := af3'
   have dc0 := dc0'
   have df0 := df0'
   have dc1 := dc1'
   have df1 := df1'
   have dc2 := dc2'
   have df2 := df2'
   have dc3 := dc3'
   have df3 := df3'
   clear ac0' af0' ac1' af1' ac2' af2' ac3' af3' dc0' df0' dc1' df1' dc2' df2' dc3' df3'
   go_wp2
   go_roundw
   case rel => exact ⟨k + 1, v, by omega, by go_num, hv, HV', by simp [go_sem, ac0], by simp [go_sem, af0], by simp [go_sem, ac1], by simp [go_sem, af1], by simp [go_sem, ac2], by simp [go_sem, af2], by simp [go_sem, ac3], by simp [go_sem, af3], by simp [go_sem, dc0], by simp [go_sem, df0], by simp [go_sem, dc1], by simp [go_sem, df1], by simp [go_sem, dc2], by simp [go_sem, df2], by simp [go_sem, dc3], by simp [go_sem, df3], by simp; exact hs', ((((HB.out.setCell (by dsimp only; omega) _).setCell (by dsimp only; omega) _).setCell (by dsimp only; omega) _).setCell (by dsimp only; omega) _)⟩
   case measure => simp [intOf]; omega
  ·have e : k = m := by omega
   subst e
   go_wp2
   refine bodyPost_ret (v := (.agg (ea z))) (by simp [results, Tryz.results100, go_sem, dc0, dc1, dc2, dc3]) rfl ⟨_, rfl, hz, HZ, ?_⟩
   exact ((((HB.out.setCell (by dsimp only; omega) _).setCell (by dsimp only; omega) _).setCell (by dsimp only; omega) _).setCell (by dsimp only; omega) _)
end Go.Proofs.YtlnbjehimabaiaaGreatDoor.Fc
