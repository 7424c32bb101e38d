/-
  Several texts of one's own, laid together. No statement of the seat is proved here.
-/
import Derived.Test.YtmibjgkakolhiaaGreatDoorPk21
/-
 What poly's carried and lowest128 do, for whatever limbs within their bounds. No statement of the seat is proved here.
-/
namespace Go.Proofs.YtmibjgkakolhiaaGreatDoor
open Go.RowKit

/-- How the carries run. -/
structure Cr (a0 a1 a2 a3 a4 b0 b1 b2 b3 b4 : Int) : Prop where
 run : ∃ o0 o1 o2 o3 o4 o5 d0 d1 : Int, (0 ≤ d0 ∧ d0 < 67108864 ∧ a0 = d0 + 67108864 * o0 ∧ 0 ≤ o0) ∧ (0 ≤ d1 ∧ d1 < 67108864 ∧ a1 + o0 = d1 + 67108864 * o1 ∧ 0 ≤ o1) ∧ (0 ≤ b2 ∧ b2 < 67108864 ∧ a2 + o1 = b2 + 67108864 * o2 ∧ 0 ≤ o2) ∧ (0 ≤ b3 ∧ b3 < 67108864 ∧ a3 + o2 = b3 + 67108864 * o3 ∧ 0 ≤ o3) ∧ (0 ≤ b4 ∧ b4 < 67108864 ∧ a4 + o3 = b4 + 67108864 * o4 ∧ 0 ≤ o4) ∧ (0 ≤ b0 ∧ b0 < 67108864 ∧ d0 + 5 * o4 = b0 + 67108864 * o5 ∧ 0 ≤ o5) ∧ b1 = d1 + o5
set_option maxRecDepth 8000 in
theorem Cr.bound {a0 a1 a2 a3 a4 b0 b1 b2 b3 b4 : Int} (h : Cr a0 a1 a2 a3 a4 b0 b1 b2 b3 b4) (ha0 : 0 ≤ a0 ∧ a0 < 576460752303423488) (ha1 : 0 ≤ a1 ∧ a1 < 576460752303423488) (ha2 : 0 ≤ a2 ∧ a2 < 576460752303423488) (ha3 : 0 ≤ a3 ∧ a3 < 576460752303423488) (ha4 : 0 ≤ a4 ∧ a4 < 576460752303423488) : (0 ≤ b0 ∧ b0 < 67108864) ∧ (0 ≤ b1 ∧ b1 < 67112960) ∧ (0 ≤ b2 ∧ b2 < 67108864) ∧ (0 ≤ b3 ∧ b3 < 67108864) ∧ (0 ≤ b4 ∧ b4 < 67108864) := by
 obtain ⟨o0, o1, o2, o3, o4, o5, d0, d1, h0, h1, h2, h3, h4, h5, rfl⟩ := h.run
 omega
set_option maxRecDepth 8000 in
theorem Cr.same {a0 a1 a2 a3 a4 b0 b1 b2 b3 b4 : Int} (h : Cr a0 a1 a2 a3 a4 b0 b1 b2 b3 b4) : lv b0 b1 b2 b3 b4 % 1361129467683753853853498429727072845819 = lv a0 a1 a2 a3 a4 % 1361129467683753853853498429727072845819 := by
 obtain ⟨o0, o1, o2, o3, o4, o5, d0, d1, h0, h1, h2, h3, h4, h5, rfl⟩ := h.run
 have e : lv a0 a1 a2 a3 a4 = lv b0 (d1 + o5) b2 b3 b4 + 1361129467683753853853498429727072845819 * o4 := by unfold lv; omega
 rw [e, Int.add_mul_emod_self_left]
set_option maxRecDepth 8000 in
/-- Carried once more, all limbs lie below their end. -/
theorem Cr.small {a0 a1 a2 a3 a4 b0 b1 b2 b3 b4 : Int} (h : Cr a0 a1 a2 a3 a4 b0 b1 b2 b3 b4) (h0 : 0 ≤ a0 ∧ a0 < 67108864) (h1 : 0 ≤ a1 ∧ a1 < 67112960) (h2 : 0 ≤ a2 ∧ a2 < 67108864) (h3 : 0 ≤ a3 ∧ a3 < 67108864) (h4 : 0 ≤ a4 ∧ a4 < 67108864) : 0 ≤ b1 ∧ b1 < 67108864 := by
 obtain ⟨o0, o1, o2, o3, o4, o5, d0, d1, k0, k1, k2, k3, k4, k5, rfl⟩ := h.run
 omega
set_option maxRecDepth 8000 in
set_option maxHeartbeats 2000000 in
theorem carried_c (a0 a1 a2 a3 a4 : Int) (ha0 : 0 ≤ a0 ∧ a0 < 576460752303423488) (ha1 : 0 ≤ a1 ∧ a1 < 576460752303423488) (ha2 : 0 ≤ a2 ∧ a2 < 576460752303423488) (ha3 : 0 ≤ a3 ∧ a3 < 576460752303423488) (ha4 : 0 ≤ a4 ∧ a4 < 576460752303423488) (w : World) :
  Calls Tryz.prog 87 #[(.agg #[.int .u64 a0, .int .u64 a1, .int .u64 a2, .int .u64 a3, .int .u64 a4])] w fun e w' => ∃ b0 b1 b2 b3 b4, e = .returned (.agg #[.int .u64 b0, .int .u64 b1, .int .u64 b2, .int .u64 b3, .int .u64 b4]) ∧ Hid (Cr a0 a1 a2 a3 a4 b0 b1 b2 b3 b4) ∧ Below w.heap.size w w' := by
 obtain ⟨_, _⟩ := ha0
 obtain ⟨_, _⟩ := ha1
 obtain ⟨_, _⟩ := ha2
 obtain ⟨_, _⟩ := ha3
 obtain ⟨_, _⟩ := ha4
 obtain ⟨o0, ho0⟩ : ∃ o, a0 / 67108864 = o := ⟨_, rfl⟩
 obtain ⟨d0, hd0⟩ : ∃ d, bits .and .u64 a0 67108863 = d := ⟨_, rfl⟩
 have E0 : Hid (0 ≤ d0 ∧ d0 < 67108864 ∧ a0 = d0 + 67108864 * o0 ∧ 0 ≤ o0 ∧ o0 ≤ 8589935616) := by
  have := mask26 a0 ⟨by omega, by omega⟩
  unfold Hid; omega
 have p0 : 0 ≤ o0 ∧ o0 ≤ 8589935616 := E0.out.2.2.2
 have t0 : 0 ≤ d0 ∧ d0 < 67108864 := ⟨E0.out.1, E0.out.2.1⟩
 obtain ⟨_, _⟩ := p0
 obtain ⟨_, _⟩ := t0
 obtain ⟨o1, ho1⟩ : ∃ o, (a1 + o0) / 67108864 = o := ⟨_, rfl⟩
 obtain ⟨d1, hd1⟩ : ∃ d, bits .and .u64 (a1 + o0) 67108863 = d := ⟨_, rfl⟩
 have E1 : Hid (0 ≤ d1 ∧ d1 < 67108864 ∧ a1 + o0 = d1 + 67108864 * o1 ∧ 0 ≤ o1 ∧ o1 ≤ 8589935616) := by
  have := mask26 (a1 + o0) ⟨by omega, by omega⟩
  unfold Hid; omega
 have p1 : 0 ≤ o1 ∧ o1 ≤ 8589935616 := E1.out.2.2.2
 have t1 : 0 ≤ d1 ∧ d1 < 67108864 := ⟨E1.out.1, E1.out.2.1⟩
 obtain ⟨_, _⟩ := p1
 obtain ⟨_, _⟩ := t1
 obtain ⟨o2, ho2⟩ : ∃ o, (a2 + o1) / 67108864 = o := ⟨_, rfl⟩
 obtain ⟨d2, hd2⟩ : ∃ d, bits .and .u64 (a2 + o1) 67108863 = d := ⟨_, rfl⟩
 have E2 : Hid (0 ≤ d2 ∧ d2 < 67108864 ∧ a2 + o1 = d2 + 67108864 * o2 ∧ 0 ≤ o2 ∧ o2 ≤ 8589935616) := by
  have := mask26 (a2 + o1) ⟨by omega, by omega⟩
  unfold Hid; omega
 have p2 : 0 ≤ o2 ∧ o2 ≤ 8589935616 := E2.out.2.2.2
 have t2 : 0 ≤ d2 ∧ d2 < 67108864 := ⟨E2.out.1, E2.out.2.1⟩
 obtain ⟨_, _⟩ := p2
 obtain ⟨_, _⟩ := t2
 obtain ⟨o3, ho3⟩ : ∃ o, (a3 + o2) / 67108864 = o := ⟨_, rfl⟩
 obtain ⟨d3, hd3⟩ : ∃ d, bits .and .u64 (a3 + o2) 67108863 = d := ⟨_, rfl⟩
 have E3 : Hid (0 ≤ d3 ∧ d3 < 67108864 ∧ a3 + o2 = d3 + 67108864 * o3 ∧ 0 ≤ o3 ∧ o3 ≤ 8589935616) := by
  have := mask26 (a3 + o2) ⟨by omega, by omega⟩
  unfold Hid; omega
 have p3 : 0 ≤ o3 ∧ o3 ≤ 8589935616 := E3.out.2.2.2
 have t3 : 0 ≤ d3 ∧ d3 < 67108864 := ⟨E3.out.1, E3.out.2.1⟩
 obtain ⟨_, _⟩ := p3
 obtain ⟨_, _⟩ := t3
 obtain ⟨o4, ho4⟩ : ∃ o, (a4 + o3) / 67108864 = o := ⟨_, rfl⟩
 obtain ⟨d4, hd4⟩ : ∃ d, bits .and .u64 (a4 + o3) 67108863 = d := ⟨_, rfl⟩
 have E4 : Hid (0 ≤ d4 ∧ d4 < 67108864 ∧ a4 + o3 = d4 + 67108864 * o4 ∧ 0 ≤ o4 ∧ o4 ≤ 8589935616) := by
  have := mask26 (a4 + o3) ⟨by omega, by omega⟩
  unfold Hid; omega
 have p4 : 0 ≤ o4 ∧ o4 ≤ 8589935616 := E4.out.2.2.2
 have t4 : 0 ≤ d4 ∧ d4 < 67108864 := ⟨E4.out.1, E4.out.2.1⟩
 obtain ⟨_, _⟩ := p4
 obtain ⟨_, _⟩ := t4
 obtain ⟨o5, ho5⟩ : ∃ o, (d0 + 5 * o4) / 67108864 = o := ⟨_, rfl⟩
 obtain ⟨d5, hd5⟩ : ∃ d, bits .and .u64 (d0 + 5 * o4) 67108863 = d := ⟨_, rfl⟩
 have E5 : Hid (0 ≤ d5 ∧ d5 < 67108864 ∧ d0 + 5 * o4 = d5 + 67108864 * o5 ∧ 0 ≤ o5 ∧ o5 ≤ 1000) := by
  have := mask26 (d0 + 5 * o4) ⟨by omega, by omega⟩
  unfold Hid; omega
 have p5 : 0 ≤ o5 ∧ o5 ≤ 1000 := E5.out.2.2.2
 obtain ⟨_, _⟩ := p5
 go_enter Tryz.func87, Tryz.ntmps87
 go_wp2
 refine wp_loop_rounds 6 ?_
 rw [rounds_succ]; go_wp2
 rw [rounds_succ]; go_wp2
 rw [rounds_succ]; go_wp2
 rw [rounds_succ]; go_wp2
 rw [rounds_succ]; go_wp2
 rw [rounds_succ]; go_wp2
 refine bodyPost_ret (v := (.agg #[.int .u64 d5, .int .u64 (d1 + o5), .int .u64 d2, .int .u64 d3, .int .u64 d4])) (by simp [results, Tryz.results87, go_sem]) rfl ⟨_, _, _, _, _, rfl, ?_, ?_⟩
 ·exact ⟨o0, o1, o2, o3, o4, o5, d0, d1, ⟨E0.out.1, E0.out.2.1, E0.out.2.2.1, E0.out.2.2.2.1⟩, ⟨E1.out.1, E1.out.2.1, E1.out.2.2.1, E1.out.2.2.2.1⟩, ⟨E2.out.1, E2.out.2.1, E2.out.2.2.1, E2.out.2.2.2.1⟩, ⟨E3.out.1, E3.out.2.1, E3.out.2.2.1, E3.out.2.2.2.1⟩, ⟨E4.out.1, E4.out.2.1, E4.out.2.2.1, E4.out.2.2.2.1⟩, ⟨E5.out.1, E5.out.2.1, E5.out.2.2.1, E5.out.2.2.2.1⟩, rfl⟩
 ·exact bel2 _ _ _
end Go.Proofs.YtmibjgkakolhiaaGreatDoor
/-
 What poly's lowest128 does, for whatever limbs that were carried once. No statement of the seat is proved here.
-/
namespace Go.Proofs.YtmibjgkakolhiaaGreatDoor
open Go.RowKit

set_option maxRecDepth 8000 in
theorem or26 (a b : Int) (ha : 0 ≤ a ∧ a < 67108864) (hb : 0 ≤ b ∧ b < 67108864) : bits .or .u64 a (b * 67108864) = a + b * 67108864 := or64 a b 26 67108864 (by decide) ha.1 ha.2 hb.1 (by omega)
set_option maxRecDepth 8000 in
theorem or52 (a b : Int) (ha : 0 ≤ a ∧ a < 4503599627370496) (_hb : 0 ≤ b ∧ b < 67108864) : bits .or .u64 a (IntKind.u64.wrap (b * 4503599627370496)) = a + b % 4096 * 4503599627370496 := by
 rw [IntKind.wrap_u64]
 have e : b * 4503599627370496 % 18446744073709551616 = b % 4096 * 4503599627370496 := by omega
 rw [e, or64 a (b % 4096) 52 4503599627370496 (by decide) ha.1 ha.2 (by omega) (by omega)]
set_option maxRecDepth 8000 in
theorem or14 (a b : Int) (ha : 0 ≤ a ∧ a < 16384) (hb : 0 ≤ b ∧ b < 67108864) : bits .or .u64 a (b * 16384) = a + b * 16384 := or64 a b 14 16384 (by decide) ha.1 ha.2 hb.1 (by omega)
set_option maxRecDepth 8000 in
theorem or40 (a b : Int) (ha : 0 ≤ a ∧ a < 1099511627776) (_hb : 0 ≤ b ∧ b < 67108864) : bits .or .u64 a (IntKind.u64.wrap (b * 1099511627776)) = a + b % 16777216 * 1099511627776 := by
 rw [IntKind.wrap_u64]
 have e : b * 1099511627776 % 18446744073709551616 = b % 16777216 * 1099511627776 := by omega
 rw [e, or64 a (b % 16777216) 40 1099511627776 (by decide) ha.1 ha.2 (by omega) (by omega)]
set_option maxRecDepth 8000 in
theorem low_fin (b0 b1 b2 b3 b4 v1 v2 v3 v4 v5 lo hi c : Int) (h0 : 0 ≤ b0 ∧ b0 < 67108864) (h1 : 0 ≤ b1 ∧ b1 < 67108864) (h2 : 0 ≤ b2 ∧ b2 < 67108864) (h3 : 0 ≤ b3 ∧ b3 < 67108864) (h4 : 0 ≤ b4 ∧ b4 < 67108864)
  (e1 : (b0 + 5) / 67108864 = v1) (e2 : (b1 + v1) / 67108864 = v2) (e3 : (b2 + v2) / 67108864 = v3) (e4 : (b3 + v3) / 67108864 = v4) (e5 : (b4 + v4) / 67108864 = v5)
  (hl : lo = (b0 + b1 * 67108864 + b2 % 4096 * 4503599627370496 + 5 * v5) % 18446744073709551616) (hc : c = (b0 + b1 * 67108864 + b2 % 4096 * 4503599627370496 + 5 * v5) / 18446744073709551616)
  (hh : hi = (b2 / 4096 + b3 * 16384 + b4 % 16777216 * 1099511627776 + c) % 18446744073709551616) :
  lo + hi * 18446744073709551616 = lv b0 b1 b2 b3 b4 % 1361129467683753853853498429727072845819 % 340282366920938463463374607431768211456 := by
 have hv : lv b0 b1 b2 b3 b4 % 1361129467683753853853498429727072845819 = lv b0 b1 b2 b3 b4 - 1361129467683753853853498429727072845819 * v5 := by unfold lv; omega
 rw [hv]
 unfold lv
 omega
set_option maxRecDepth 8000 in
set_option maxHeartbeats 2000000 in
theorem lowest_c (a0 a1 a2 a3 a4 : Int) (ha0 : 0 ≤ a0 ∧ a0 < 67108864) (ha1 : 0 ≤ a1 ∧ a1 < 67112960) (ha2 : 0 ≤ a2 ∧ a2 < 67108864) (ha3 : 0 ≤ a3 ∧ a3 < 67108864) (ha4 : 0 ≤ a4 ∧ a4 < 67108864) (w : World) :
  Calls Tryz.prog 91 #[(.agg #[.int .u64 a0, .int .u64 a1, .int .u64 a2, .int .u64 a3, .int .u64 a4])] w fun e w' => ∃ lo hi, e = .returned (.tuple #[.int .u64 lo, .int .u64 hi]) ∧ Wq lo ∧ Wq hi ∧ Hid (lo + hi * 18446744073709551616 = lv a0 a1 a2 a3 a4 % 1361129467683753853853498429727072845819 % 340282366920938463463374607431768211456) ∧ Below w.heap.size w w' := by
 go_enter Tryz.func91, Tryz.ntmps91
 go_wp2_with fail
 refine (carried_c a0 a1 a2 a3 a4 ⟨by omega, by omega⟩ ⟨by omega, by omega⟩ ⟨by omega, by omega⟩ ⟨by omega, by omega⟩ ⟨by omega, by omega⟩ _).mono ?_
 rintro e W1 ⟨b0, b1, b2, b3, b4, rfl, HC, hb⟩
 have g1 := HC.out.small ha0 ha1 ha2 ha3 ha4
 obtain ⟨g0, -, g2, g3, g4⟩ := HC.out.bound ⟨by omega, by omega⟩ ⟨by omega, by omega⟩ ⟨by omega, by omega⟩ ⟨by omega, by omega⟩ ⟨by omega, by omega⟩
 have HS : Hid (lv b0 b1 b2 b3 b4 % 1361129467683753853853498429727072845819 = lv a0 a1 a2 a3 a4 % 1361129467683753853853498429727072845819) := HC.out.same
 have HG : Hid ((0 ≤ b0 ∧ b0 < 67108864) ∧ (0 ≤ b1 ∧ b1 < 67108864) ∧ (0 ≤ b2 ∧ b2 < 67108864) ∧ (0 ≤ b3 ∧ b3 < 67108864) ∧ (0 ≤ b4 ∧ b4 < 67108864)) := ⟨g0, g1, g2, g3, g4⟩
 have c0 : W1.cell? ⟨w.heap.size, 0, none⟩ = some (.int .u64 a0) := cell_later hb (by simp [go_sem])
 have c1 : W1.cell? ⟨w.heap.size, 1, none⟩ = some (.int .u64 a1) := cell_later hb (by simp [go_sem])
 have c2 : W1.cell? ⟨w.heap.size, 2, none⟩ = some (.int .u64 a2) := cell_later hb (by simp [go_sem])
 have c3 : W1.cell? ⟨w.heap.size, 3, none⟩ = some (.int .u64 a3) := cell_later hb (by simp [go_sem])
 have c4 : W1.cell? ⟨w.heap.size, 4, none⟩ = some (.int .u64 a4) := cell_later hb (by simp [go_sem])
 have f0 : W1.frozen? ⟨w.heap.size, 0, none⟩ = false := froz_later hb (by simp) (by simp [go_sem])
 have f1 : W1.frozen? ⟨w.heap.size, 1, none⟩ = false := froz_later hb (by simp) (by simp [go_sem])
 have f2 : W1.frozen? ⟨w.heap.size, 2, none⟩ = false := froz_later hb (by simp) (by simp [go_sem])
 have f3 : W1.frozen? ⟨w.heap.size, 3, none⟩ = false := froz_later hb (by simp) (by simp [go_sem])
 have f4 : W1.frozen? ⟨w.heap.size, 4, none⟩ = false := froz_later hb (by simp) (by simp [go_sem])
 have HB : Hid (Below w.heap.size w W1) := (bel1 w _).trans (hb.mono (by simp))
 clear hb HC
 obtain ⟨_, _⟩ := g0
 obtain ⟨_, _⟩ := g1
 obtain ⟨_, _⟩ := g2
 obtain ⟨_, _⟩ := g3
 obtain ⟨_, _⟩ := g4
 obtain ⟨v1, e1⟩ : ∃ v, (b0 + 5) / 67108864 = v := ⟨_, rfl⟩
 have hv1 : 0 ≤ v1 ∧ v1 ≤ 1 := by omega
 obtain ⟨_, _⟩ := hv1
 obtain ⟨v2, e2⟩ : ∃ v, (b1 + v1) / 67108864 = v := ⟨_, rfl⟩
 have hv2 : 0 ≤ v2 ∧ v2 ≤ 1 := by omega
 obtain ⟨_, _⟩ := hv2
 obtain ⟨v3, e3⟩ : ∃ v, (b2 + v2) / 67108864 = v := ⟨_, rfl⟩
 have hv3 : 0 ≤ v3 ∧ v3 ≤ 1 := by omega
 obtain ⟨_, _⟩ := hv3
 obtain ⟨v4, e4⟩ : ∃ v, (b3 + v3) / 67108864 = v := ⟨_, rfl⟩
 have hv4 : 0 ≤ v4 ∧ v4 ≤ 1 := by omega
 obtain ⟨_, _⟩ := hv4
 obtain ⟨v5, e5⟩ : ∃ v, (b4 + v4) / 67108864 = v := ⟨_, rfl⟩
 have hv5 : 0 ≤ v5 ∧ v5 ≤ 1 := by omega
 obtain ⟨_, _⟩ := hv5
 have q1 := or26 b0 b1 HG.out.1 HG.out.2.1
 have q2 := or52 (b0 + b1 * 67108864) b2 ⟨by omega, by omega⟩ HG.out.2.2.1
 have q3 := or14 (b2 / 4096) b3 ⟨by omega, by omega⟩ HG.out.2.2.2.1
 have q4 := or40 (b2 / 4096 + b3 * 16384) b4 ⟨by omega, by omega⟩ HG.out.2.2.2.2
 obtain ⟨x, hx⟩ : ∃ x, b0 + b1 * 67108864 + b2 % 4096 * 4503599627370496 = x := ⟨_, rfl⟩
 have hxb : 0 ≤ x ∧ x < 18446744073709551616 := by omega
 rw [hx] at q2
 obtain ⟨lo, hlo⟩ : ∃ z, (x + 5 * v5 + 0) % 18446744073709551616 = z := ⟨_, rfl⟩
 obtain ⟨c, hc⟩ : ∃ z, (x + 5 * v5 + 0) / 18446744073709551616 = z := ⟨_, rfl⟩
 have hadd := fun u => padd64 x (5 * v5) 0 hxb.1 (by omega) (by decide) (by decide) u
 simp only [hlo, hc] at hadd
 have hcb : 0 ≤ c ∧ c ≤ 1 := by omega
 obtain ⟨y, hy⟩ : ∃ y, b2 / 4096 + b3 * 16384 + b4 % 16777216 * 1099511627776 = y := ⟨_, rfl⟩
 have hyb : 0 ≤ y ∧ y < 18446744073709551616 := by omega
 rw [hy] at q4
 obtain ⟨hi, hhi⟩ : ∃ z, IntKind.u64.wrap (y + c) = z := ⟨_, rfl⟩
 have HF : Hid (Wq lo ∧ Wq hi ∧ lo + hi * 18446744073709551616 = lv a0 a1 a2 a3 a4 % 1361129467683753853853498429727072845819 % 340282366920938463463374607431768211456) := by
  rw [IntKind.wrap_u64] at hhi
  refine ⟨⟨by omega, by omega⟩, ⟨by omega, by omega⟩, ?_⟩
  rw [← HS.out]
  exact low_fin b0 b1 b2 b3 b4 v1 v2 v3 v4 v5 lo hi c HG.out.1 HG.out.2.1 HG.out.2.2.1 HG.out.2.2.2.1 HG.out.2.2.2.2 e1 e2 e3 e4 e5 (by rw [hx, ← hlo, Int.add_zero]) (by rw [hx, ← hc, Int.add_zero]) (by rw [hy, ← hhi])
 obtain ⟨_, _⟩ := hxb
 obtain ⟨_, _⟩ := hyb
 obtain ⟨_, _⟩ := hcb
 clear hx hy hlo hc HS HG
 have ix0 : ∀ u, Sem.run Tryz.prog (Instr.index 123 (.agg #[.int .u64 b0, .int .u64 b1, .int .u64 b2, .int .u64 b3, .int .u64 b4]) (.int .i64 0)) u = .ok (.int .u64 b0) u := fun u => by simp [Instr.index, run_underlying Tryz.underlying123, asIntOf, go_sem]
 have ix1 : ∀ u, Sem.run Tryz.prog (Instr.index 123 (.agg #[.int .u64 b0, .int .u64 b1, .int .u64 b2, .int .u64 b3, .int .u64 b4]) (.int .i64 1)) u = .ok (.int .u64 b1) u := fun u => by simp [Instr.index, run_underlying Tryz.underlying123, asIntOf, go_sem]
 have ix2 : ∀ u, Sem.run Tryz.prog (Instr.index 123 (.agg #[.int .u64 b0, .int .u64 b1, .int .u64 b2, .int .u64 b3, .int .u64 b4]) (.int .i64 2)) u = .ok (.int .u64 b2) u := fun u => by simp [Instr.index, run_underlying Tryz.underlying123, asIntOf, go_sem]
 have ix3 : ∀ u, Sem.run Tryz.prog (Instr.index 123 (.agg #[.int .u64 b0, .int .u64 b1, .int .u64 b2, .int .u64 b3, .int .u64 b4]) (.int .i64 3)) u = .ok (.int .u64 b3) u := fun u => by simp [Instr.index, run_underlying Tryz.underlying123, asIntOf, go_sem]
 have ix4 : ∀ u, Sem.run Tryz.prog (Instr.index 123 (.agg #[.int .u64 b0, .int .u64 b1, .int .u64 b2, .int .u64 b3, .int .u64 b4]) (.int .i64 4)) u = .ok (.int .u64 b4) u := fun u => by simp [Instr.index, run_underlying Tryz.underlying123, asIntOf, go_sem]
 go_wp2_with fail
 refine wp_loop_rounds 6 ?_
 rw [rounds_succ]; go_wp2
 rw [rounds_succ]; go_wp2
 rw [rounds_succ]; go_wp2
 rw [rounds_succ]; go_wp2
 rw [rounds_succ]; go_wp2
 rw [rounds_succ]; go_wp2_with (first | simp only [hadd])
 go_quiet (fail)
 go_wp2
 go_ret2
 refine ⟨_, _, rfl, HF.out.1, HF.out.2.1, HF.out.2.2, ?_⟩
 exact belowN (((((HB.out.setCell (p := ⟨w.heap.size, 0, none⟩) (Nat.le_refl _) _).setCell (p := ⟨w.heap.size, 1, none⟩) (Nat.le_refl _) _).setCell (p := ⟨w.heap.size, 2, none⟩) (Nat.le_refl _) _).setCell (p := ⟨w.heap.size, 3, none⟩) (Nat.le_refl _) _).setCell (p := ⟨w.heap.size, 4, none⟩) (Nat.le_refl _) _) _
end Go.Proofs.YtmibjgkakolhiaaGreatDoor
