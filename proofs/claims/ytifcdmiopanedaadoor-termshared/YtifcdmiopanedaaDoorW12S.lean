/-
  TermShared's walk. No statement of the seat is proved here.
-/
import Derived.Test.YtifcdmiopanedaaDoorTKn
import Derived.Test.YtifcdmiopanedaaDoorTSz
namespace Go.Proofs.YtifcdmiopanedaaDoor
open Go.RowKit
set_option linter.unusedVariables false
set_option linter.unusedSimpArgs false

theorem shN_len {n m : Int} (n0 : -9223372036854775808 ≤ n) (n1 : n ≤ 9223372036854775807) (m0 : -9223372036854775808 ≤ m) (m1 : m ≤ 9223372036854775807) : (shN n m).length + 64 ≤ 140737488355328 := by
  have h1 := Lib.itoa_length_le n n0 n1
  have h2 := Lib.itoa_length_le m m0 m1
  unfold shN
  simp only [List.length_append, List.length_cons]
  omega
theorem shN_pos (n m : Int) : 0 < (shN n m).length := by unfold shN; simp
set_option maxRecDepth 8000 in
set_option maxHeartbeats 2000000 in
theorem termShared_walk (a b c : Int) (ha : -9223372036854775808 ≤ a ∧ a ≤ 9223372036854775807) (hb : -9223372036854775808 ≤ b ∧ b ≤ 9223372036854775807) (hc : -9223372036854775808 ≤ c ∧ c ≤ 9223372036854775807) (w : World) (hg : Gt w) : Calls Tryd.prog 7 #[.int .i64 a, .int .i64 b, .int .i64 c] w fun e u => e = .returned (.bool true) ∧ Below w.heap.size w u := by
  obtain ⟨a0, a1⟩ := ha
  obtain ⟨b0, b1⟩ := hb
  obtain ⟨c0, c1⟩ := hc
  obtain ⟨m1, e1⟩ : ∃ z, min a b = z := ⟨_, rfl⟩
  obtain ⟨M1, f1⟩ : ∃ z, max a b = z := ⟨_, rfl⟩
  obtain ⟨m3, e3⟩ : ∃ z, min c b = z := ⟨_, rfl⟩
  obtain ⟨M3, f3⟩ : ∃ z, max c b = z := ⟨_, rfl⟩
  have e2 : min b a = m1 := by omega
  have f2 : max b a = M1 := by omega
  have x0 : -9223372036854775808 ≤ m1 := by omega
  have x1 : m1 ≤ 9223372036854775807 := by omega
  have y0 : -9223372036854775808 ≤ M1 := by omega
  have y1 : M1 ≤ 9223372036854775807 := by omega
  have z0 : -9223372036854775808 ≤ m3 := by omega
  have z1 : m3 ≤ 9223372036854775807 := by omega
  have t0 : -9223372036854775808 ≤ M3 := by omega
  have t1 : M3 ≤ 9223372036854775807 := by omega
  have D1 : Hid (∀ w, Calls Tryd.prog 8 #[.int .i64 a, .iface 23 (.agg #[.int .i64 b])] w fun e u => e = .returned (.tuple #[.iface 58 (.agg #[.int .i64 m1, .int .i64 M1]), .bool true]) ∧ Below w.heap.size w u) := fun w => by have h := dh_yes a b w; rw [e1, f1] at h; exact h
  have D2 : Hid (∀ w, Calls Tryd.prog 8 #[.int .i64 b, .iface 23 (.agg #[.int .i64 a])] w fun e u => e = .returned (.tuple #[.iface 58 (.agg #[.int .i64 m1, .int .i64 M1]), .bool true]) ∧ Below w.heap.size w u) := fun w => by have h := dh_yes b a w; rw [e2, f2] at h; exact h
  have D3 : Hid (∀ w, Calls Tryd.prog 8 #[.int .i64 c, .iface 23 (.agg #[.int .i64 b])] w fun e u => e = .returned (.tuple #[.iface 58 (.agg #[.int .i64 m3, .int .i64 M3]), .bool true]) ∧ Below w.heap.size w u) := fun w => by have h := dh_yes c b w; rw [e3, f3] at h; exact h
  have S1 : Hid (∀ w, Gt w → Calls Tryd.prog 13 #[.iface 58 (.agg #[.int .i64 m1, .int .i64 M1]), .iface 58 (.agg #[.int .i64 m1, .int .i64 M1])] w fun e u => e = .returned (.bool true) ∧ Below w.heap.size w u) := fun w hw => by
    have h := same_c (wrote_Shared m1 M1 x0 x1 y0 y1) (wrote_Shared m1 M1 x0 x1 y0 y1) (shN_pos _ _) (shN_pos _ _) (shN_len x0 x1 y0 y1) (shN_len x0 x1 y0 y1) w hw
    have e : (shN m1 M1 == shN m1 M1) = true := by simp
    rw [e] at h; exact h
  have S2 : Hid (∀ w, Gt w → Calls Tryd.prog 13 #[.iface 58 (.agg #[.int .i64 m1, .int .i64 M1]), .iface 58 (.agg #[.int .i64 m3, .int .i64 M3])] w fun e u => e = .returned (.bool (a == c)) ∧ Below w.heap.size w u) := fun w hw => by
    have h := same_c (wrote_Shared m1 M1 x0 x1 y0 y1) (wrote_Shared m3 M3 z0 z1 t0 t1) (shN_pos _ _) (shN_pos _ _) (shN_len x0 x1 y0 y1) (shN_len z0 z1 t0 t1) w hw
    have e : (shN m1 M1 == shN m3 M3) = (a == c) := by
      have h := dhN_same a b c
      unfold dhN at h
      rw [e1, f1, e3, f3] at h
      rw [Bool.eq_iff_iff, beq_iff_eq, beq_iff_eq]
      exact h
    rw [e] at h; exact h
  have Z1 : Hid (∀ w, Calls Tryd.prog 15 #[.iface 58 (.agg #[.int .i64 m1, .int .i64 M1])] w fun e u => e = .returned (.int .i64 1) ∧ Below w.heap.size w u) := fun w => size_c (Tm.shared m1 M1 x0 x1 y0 y1).cs (by omega) w
  have KN : Hid (∀ w, Gt w → Calls Tryd.prog 9 #[] w fun e u => e = .returned (.bool true) ∧ Below w.heap.size w u) := known_c
  have HG : Hid (Gt w) := hg
  have HB : Hid (Below w.heap.size w w) := Below.refl _ _
  clear e1 f1 e2 f2 e3 f3 x0 x1 y0 y1 z0 z1 t0 t1 hg a0 a1 b0 b1 c0 c1
  go_enter Tryd.func7, Tryd.ntmps7
  go_wp2_with fail
  refine (D1.out _).mono ?_
  rintro e u0 ⟨rfl, hb⟩
  replace HB : Hid (Below w.heap.size w u0) := HB.out.trans (hb.mono HB.out.size)
  clear hb
  go_wp2_with fail
  refine (D2.out _).mono ?_
  rintro e u1 ⟨rfl, hb⟩
  replace HB : Hid (Below w.heap.size w u1) := HB.out.trans (hb.mono HB.out.size)
  clear hb
  go_wp2_with fail
  refine (D3.out _).mono ?_
  rintro e u2 ⟨rfl, hb⟩
  replace HB : Hid (Below w.heap.size w u2) := HB.out.trans (hb.mono HB.out.size)
  clear hb
  go_wp2_with fail
  refine (KN.out _ (HG.out.later HB.out)).mono ?_
  rintro e u3 ⟨rfl, hb⟩
  replace HB : Hid (Below w.heap.size w u3) := HB.out.trans (hb.mono HB.out.size)
  clear hb
  go_wp2_with fail
  refine (S1.out _ (HG.out.later HB.out)).mono ?_
  rintro e u4 ⟨rfl, hb⟩
  replace HB : Hid (Below w.heap.size w u4) := HB.out.trans (hb.mono HB.out.size)
  clear hb
  go_wp2_with fail
  refine (S2.out _ (HG.out.later HB.out)).mono ?_
  rintro e u5 ⟨rfl, hb⟩
  replace HB : Hid (Below w.heap.size w u5) := HB.out.trans (hb.mono HB.out.size)
  clear hb
  go_wp2_with fail
  refine (Z1.out _).mono ?_
  rintro e u6 ⟨rfl, hb⟩
  replace HB : Hid (Below w.heap.size w u6) := HB.out.trans (hb.mono HB.out.size)
  clear hb
  have eb : ∀ x y : Int, ((x == y) == (x == y)) = true := fun x y => by simp
  go_wp2
  go_ret
  exact ⟨by simp, HB.out⟩
end Go.Proofs.YtifcdmiopanedaaDoor
