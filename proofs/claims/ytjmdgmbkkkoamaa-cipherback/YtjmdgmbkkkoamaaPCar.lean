/-
  What poly's carried and lowest128 do, for whatever limbs within their bounds. No statement of the seat is proved here.
-/
import Derived.Test.YtjmdgmbkkkoamaaPLimb
namespace Go.Proofs.Ytjmdgmbkkkoamaa
open Go.RowKit

/-- How the carries run. -/
structure Cr (a0 a1 a2 a3 a4 b0 b1 b2 b3 b4 : Int) : Prop where
  run : ∃ o0 o1 o2 o3 o4 o5 d0 d1 : Int, (0 ≤ d0 ∧ d0 < 67108864 ∧ a0 = d0 + 67108864 * o0 ∧ 0 ≤ o0) ∧ (0 ≤ d1 ∧ d1 < 67108864 ∧ a1 + o0 = d1 + 67108864 * o1 ∧ 0 ≤ o1) ∧ (0 ≤ b2 ∧ b2 < 67108864 ∧ a2 + o1 = b2 + 67108864 * o2 ∧ 0 ≤ o2) ∧ (0 ≤ b3 ∧ b3 < 67108864 ∧ a3 + o2 = b3 + 67108864 * o3 ∧ 0 ≤ o3) ∧ (0 ≤ b4 ∧ b4 < 67108864 ∧ a4 + o3 = b4 + 67108864 * o4 ∧ 0 ≤ o4) ∧ (0 ≤ b0 ∧ b0 < 67108864 ∧ d0 + 5 * o4 = b0 + 67108864 * o5 ∧ 0 ≤ o5) ∧ b1 = d1 + o5
theorem Cr.bound {a0 a1 a2 a3 a4 b0 b1 b2 b3 b4 : Int} (h : Cr a0 a1 a2 a3 a4 b0 b1 b2 b3 b4) (ha0 : 0 ≤ a0 ∧ a0 < 576460752303423488) (ha1 : 0 ≤ a1 ∧ a1 < 576460752303423488) (ha2 : 0 ≤ a2 ∧ a2 < 576460752303423488) (ha3 : 0 ≤ a3 ∧ a3 < 576460752303423488) (ha4 : 0 ≤ a4 ∧ a4 < 576460752303423488) : (0 ≤ b0 ∧ b0 < 67108864) ∧ (0 ≤ b1 ∧ b1 < 67112960) ∧ (0 ≤ b2 ∧ b2 < 67108864) ∧ (0 ≤ b3 ∧ b3 < 67108864) ∧ (0 ≤ b4 ∧ b4 < 67108864) := by
  obtain ⟨o0, o1, o2, o3, o4, o5, d0, d1, h0, h1, h2, h3, h4, h5, rfl⟩ := h.run
  omega
theorem Cr.same {a0 a1 a2 a3 a4 b0 b1 b2 b3 b4 : Int} (h : Cr a0 a1 a2 a3 a4 b0 b1 b2 b3 b4) : lv b0 b1 b2 b3 b4 % 1361129467683753853853498429727072845819 = lv a0 a1 a2 a3 a4 % 1361129467683753853853498429727072845819 := by
  obtain ⟨o0, o1, o2, o3, o4, o5, d0, d1, h0, h1, h2, h3, h4, h5, rfl⟩ := h.run
  have e : lv a0 a1 a2 a3 a4 = lv b0 (d1 + o5) b2 b3 b4 + 1361129467683753853853498429727072845819 * o4 := by unfold lv; omega
  rw [e, Int.add_mul_emod_self_left]
/-- Carried once more, all limbs lie below their end. -/
theorem Cr.small {a0 a1 a2 a3 a4 b0 b1 b2 b3 b4 : Int} (h : Cr a0 a1 a2 a3 a4 b0 b1 b2 b3 b4) (h0 : 0 ≤ a0 ∧ a0 < 67108864) (h1 : 0 ≤ a1 ∧ a1 < 67112960) (h2 : 0 ≤ a2 ∧ a2 < 67108864) (h3 : 0 ≤ a3 ∧ a3 < 67108864) (h4 : 0 ≤ a4 ∧ a4 < 67108864) : 0 ≤ b1 ∧ b1 < 67108864 := by
  obtain ⟨o0, o1, o2, o3, o4, o5, d0, d1, k0, k1, k2, k3, k4, k5, rfl⟩ := h.run
  omega
set_option maxHeartbeats 2000000 in
theorem carried_c (a0 a1 a2 a3 a4 : Int) (ha0 : 0 ≤ a0 ∧ a0 < 576460752303423488) (ha1 : 0 ≤ a1 ∧ a1 < 576460752303423488) (ha2 : 0 ≤ a2 ∧ a2 < 576460752303423488) (ha3 : 0 ≤ a3 ∧ a3 < 576460752303423488) (ha4 : 0 ≤ a4 ∧ a4 < 576460752303423488) (w : World) :
    Calls Try.prog 41 #[(.agg #[.int .u64 a0, .int .u64 a1, .int .u64 a2, .int .u64 a3, .int .u64 a4])] w fun e w' => ∃ b0 b1 b2 b3 b4, e = .returned (.agg #[.int .u64 b0, .int .u64 b1, .int .u64 b2, .int .u64 b3, .int .u64 b4]) ∧ Hid (Cr a0 a1 a2 a3 a4 b0 b1 b2 b3 b4) ∧ Below w.heap.size w w' := by
  obtain ⟨_, _⟩ := ha0
  obtain ⟨_, _⟩ := ha1
  obtain ⟨_, _⟩ := ha2
  obtain ⟨_, _⟩ := ha3
  obtain ⟨_, _⟩ := ha4
  obtain ⟨o0, ho0⟩ : ∃ o, a0 / 67108864 = o := ⟨_, rfl⟩
  obtain ⟨d0, hd0⟩ : ∃ d, bits .and .u64 a0 67108863 = d := ⟨_, rfl⟩
  have E0 : Hid (0 ≤ d0 ∧ d0 < 67108864 ∧ a0 = d0 + 67108864 * o0 ∧ 0 ≤ o0 ∧ o0 ≤ 8589935616) := by
    have := mask26 a0 ⟨by omega, by omega⟩
    unfold Hid; omega
  have p0 : 0 ≤ o0 ∧ o0 ≤ 8589935616 := E0.out.2.2.2
  have t0 : 0 ≤ d0 ∧ d0 < 67108864 := ⟨E0.out.1, E0.out.2.1⟩
  obtain ⟨_, _⟩ := p0
  obtain ⟨_, _⟩ := t0
  obtain ⟨o1, ho1⟩ : ∃ o, (a1 + o0) / 67108864 = o := ⟨_, rfl⟩
  obtain ⟨d1, hd1⟩ : ∃ d, bits .and .u64 (a1 + o0) 67108863 = d := ⟨_, rfl⟩
  have E1 : Hid (0 ≤ d1 ∧ d1 < 67108864 ∧ a1 + o0 = d1 + 67108864 * o1 ∧ 0 ≤ o1 ∧ o1 ≤ 8589935616) := by
    have := mask26 (a1 + o0) ⟨by omega, by omega⟩
    unfold Hid; omega
  have p1 : 0 ≤ o1 ∧ o1 ≤ 8589935616 := E1.out.2.2.2
  have t1 : 0 ≤ d1 ∧ d1 < 67108864 := ⟨E1.out.1, E1.out.2.1⟩
  obtain ⟨_, _⟩ := p1
  obtain ⟨_, _⟩ := t1
  obtain ⟨o2, ho2⟩ : ∃ o, (a2 + o1) / 67108864 = o := ⟨_, rfl⟩
  obtain ⟨d2, hd2⟩ : ∃ d, bits .and .u64 (a2 + o1) 67108863 = d := ⟨_, rfl⟩
  have E2 : Hid (0 ≤ d2 ∧ d2 < 67108864 ∧ a2 + o1 = d2 + 67108864 * o2 ∧ 0 ≤ o2 ∧ o2 ≤ 8589935616) := by
    have := mask26 (a2 + o1) ⟨by omega, by omega⟩
    unfold Hid; omega
  have p2 : 0 ≤ o2 ∧ o2 ≤ 8589935616 := E2.out.2.2.2
  have t2 : 0 ≤ d2 ∧ d2 < 67108864 := ⟨E2.out.1, E2.out.2.1⟩
  obtain ⟨_, _⟩ := p2
  obtain ⟨_, _⟩ := t2
  obtain ⟨o3, ho3⟩ : ∃ o, (a3 + o2) / 67108864 = o := ⟨_, rfl⟩
  obtain ⟨d3, hd3⟩ : ∃ d, bits .and .u64 (a3 + o2) 67108863 = d := ⟨_, rfl⟩
  have E3 : Hid (0 ≤ d3 ∧ d3 < 67108864 ∧ a3 + o2 = d3 + 67108864 * o3 ∧ 0 ≤ o3 ∧ o3 ≤ 8589935616) := by
    have := mask26 (a3 + o2) ⟨by omega, by omega⟩
    unfold Hid; omega
  have p3 : 0 ≤ o3 ∧ o3 ≤ 8589935616 := E3.out.2.2.2
  have t3 : 0 ≤ d3 ∧ d3 < 67108864 := ⟨E3.out.1, E3.out.2.1⟩
  obtain ⟨_, _⟩ := p3
  obtain ⟨_, _⟩ := t3
  obtain ⟨o4, ho4⟩ : ∃ o, (a4 + o3) / 67108864 = o := ⟨_, rfl⟩
  obtain ⟨d4, hd4⟩ : ∃ d, bits .and .u64 (a4 + o3) 67108863 = d := ⟨_, rfl⟩
  have E4 : Hid (0 ≤ d4 ∧ d4 < 67108864 ∧ a4 + o3 = d4 + 67108864 * o4 ∧ 0 ≤ o4 ∧ o4 ≤ 8589935616) := by
    have := mask26 (a4 + o3) ⟨by omega, by omega⟩
    unfold Hid; omega
  have p4 : 0 ≤ o4 ∧ o4 ≤ 8589935616 := E4.out.2.2.2
  have t4 : 0 ≤ d4 ∧ d4 < 67108864 := ⟨E4.out.1, E4.out.2.1⟩
  obtain ⟨_, _⟩ := p4
  obtain ⟨_, _⟩ := t4
  obtain ⟨o5, ho5⟩ : ∃ o, (d0 + 5 * o4) / 67108864 = o := ⟨_, rfl⟩
  obtain ⟨d5, hd5⟩ : ∃ d, bits .and .u64 (d0 + 5 * o4) 67108863 = d := ⟨_, rfl⟩
  have E5 : Hid (0 ≤ d5 ∧ d5 < 67108864 ∧ d0 + 5 * o4 = d5 + 67108864 * o5 ∧ 0 ≤ o5 ∧ o5 ≤ 1000) := by
    have := mask26 (d0 + 5 * o4) ⟨by omega, by omega⟩
    unfold Hid; omega
  have p5 : 0 ≤ o5 ∧ o5 ≤ 1000 := E5.out.2.2.2
  obtain ⟨_, _⟩ := p5
  go_enter Try.func41, Try.ntmps41
  go_wp2
  refine wp_loop_rounds 6 ?_
  rw [rounds_succ]; go_wp2
  rw [rounds_succ]; go_wp2
  rw [rounds_succ]; go_wp2
  rw [rounds_succ]; go_wp2
  rw [rounds_succ]; go_wp2
  rw [rounds_succ]; go_wp2
  refine bodyPost_ret (v := (.agg #[.int .u64 d5, .int .u64 (d1 + o5), .int .u64 d2, .int .u64 d3, .int .u64 d4])) (by simp [results, Try.results41, go_sem]) rfl ⟨_, _, _, _, _, rfl, ?_, ?_⟩
  · exact ⟨o0, o1, o2, o3, o4, o5, d0, d1, ⟨E0.out.1, E0.out.2.1, E0.out.2.2.1, E0.out.2.2.2.1⟩, ⟨E1.out.1, E1.out.2.1, E1.out.2.2.1, E1.out.2.2.2.1⟩, ⟨E2.out.1, E2.out.2.1, E2.out.2.2.1, E2.out.2.2.2.1⟩, ⟨E3.out.1, E3.out.2.1, E3.out.2.2.1, E3.out.2.2.2.1⟩, ⟨E4.out.1, E4.out.2.1, E4.out.2.2.1, E4.out.2.2.2.1⟩, ⟨E5.out.1, E5.out.2.1, E5.out.2.2.1, E5.out.2.2.2.1⟩, rfl⟩
  · exact bel2 _ _ _
end Go.Proofs.Ytjmdgmbkkkoamaa
