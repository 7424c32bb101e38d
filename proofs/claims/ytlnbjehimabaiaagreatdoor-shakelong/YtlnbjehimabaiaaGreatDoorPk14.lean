/-
  Several texts of one's own, laid together. No statement of the seat is proved here.
-/
import Derived.Test.YtlnbjehimabaiaaGreatDoorPk12
/-
 What poly's product does, for whatever limbs within their bounds. No statement of the seat is proved here.
-/
namespace Go.Proofs.YtlnbjehimabaiaaGreatDoor
open Go.RowKit
set_option maxRecDepth 8000

theorem mul_b (a r : Int) (ha : 0 ≤ a ∧ a < 268435456) (hr : 0 ≤ r ∧ r < 67108864) : 0 ≤ a * r ∧ a * r < 18014398509481984 :=
 ⟨Int.mul_nonneg ha.1 hr.1, Int.lt_of_le_of_lt (Int.mul_le_mul (c := 268435456) (d := 67108863) (by omega) (by omega) hr.1 (by decide)) (by decide)⟩
theorem mul_bv (a r : Int) (ha : 0 ≤ a ∧ a < 268435456) (hr : 0 ≤ r ∧ r < 67108864) : 0 ≤ a * (5 * r) ∧ a * (5 * r) < 90071992547409920 := by
 have := mul_b a r ha hr
 rw [Int.mul_left_comm]
 omega
theorem lv_mul (a0 a1 a2 a3 a4 r0 r1 r2 r3 r4 : Int) : lv (a0 * r0 + a1 * (5 * r4) + a2 * (5 * r3) + a3 * (5 * r2) + a4 * (5 * r1)) (a0 * r1 + a1 * r0 + a2 * (5 * r4) + a3 * (5 * r3) + a4 * (5 * r2)) (a0 * r2 + a1 * r1 + a2 * r0 + a3 * (5 * r4) + a4 * (5 * r3)) (a0 * r3 + a1 * r2 + a2 * r1 + a3 * r0 + a4 * (5 * r4)) (a0 * r4 + a1 * r3 + a2 * r2 + a3 * r1 + a4 * r0) % 1361129467683753853853498429727072845819 = lv a0 a1 a2 a3 a4 * lv r0 r1 r2 r3 r4 % 1361129467683753853853498429727072845819 := by
 have e : lv a0 a1 a2 a3 a4 * lv r0 r1 r2 r3 r4 = lv (a0 * r0 + a1 * (5 * r4) + a2 * (5 * r3) + a3 * (5 * r2) + a4 * (5 * r1)) (a0 * r1 + a1 * r0 + a2 * (5 * r4) + a3 * (5 * r3) + a4 * (5 * r2)) (a0 * r2 + a1 * r1 + a2 * r0 + a3 * (5 * r4) + a4 * (5 * r3)) (a0 * r3 + a1 * r2 + a2 * r1 + a3 * r0 + a4 * (5 * r4)) (a0 * r4 + a1 * r3 + a2 * r2 + a3 * r1 + a4 * r0) + 1361129467683753853853498429727072845819 * ((a1 * r4 + a2 * r3 + a3 * r2 + a4 * r1) + (a2 * r4 + a3 * r3 + a4 * r2) * 67108864 + (a3 * r4 + a4 * r3) * 4503599627370496 + a4 * r4 * 302231454903657293676544) := by
  unfold lv
  grind
 rw [e, Int.add_mul_emod_self_left]
set_option maxRecDepth 20000 in
set_option maxHeartbeats 8000000 in
theorem product_c (a0 a1 a2 a3 a4 r0 r1 r2 r3 r4 : Int) (ha0 : 0 ≤ a0 ∧ a0 < 268435456) (ha1 : 0 ≤ a1 ∧ a1 < 268435456) (ha2 : 0 ≤ a2 ∧ a2 < 268435456) (ha3 : 0 ≤ a3 ∧ a3 < 268435456) (ha4 : 0 ≤ a4 ∧ a4 < 268435456) (hr0 : 0 ≤ r0 ∧ r0 < 67108864) (hr1 : 0 ≤ r1 ∧ r1 < 67108864) (hr2 : 0 ≤ r2 ∧ r2 < 67108864) (hr3 : 0 ≤ r3 ∧ r3 < 67108864) (hr4 : 0 ≤ r4 ∧ r4 < 67108864) (w : World) :
  Calls Tryz.prog 152 #[(.agg #[.int .u64 a0, .int .u64 a1, .int .u64 a2, .int .u64 a3, .int .u64 a4]), (.agg #[.int .u64 r0, .int .u64 r1, .int .u64 r2, .int .u64 r3, .int .u64 r4])] w fun e w' => ∃ p0 p1 p2 p3 p4, e = .returned (.agg #[.int .u64 p0, .int .u64 p1, .int .u64 p2, .int .u64 p3, .int .u64 p4]) ∧ (0 ≤ p0 ∧ p0 < 576460752303423488) ∧ (0 ≤ p1 ∧ p1 < 576460752303423488) ∧ (0 ≤ p2 ∧ p2 < 576460752303423488) ∧ (0 ≤ p3 ∧ p3 < 576460752303423488) ∧ (0 ≤ p4 ∧ p4 < 576460752303423488) ∧
   Hid (lv p0 p1 p2 p3 p4 % 1361129467683753853853498429727072845819 = lv a0 a1 a2 a3 a4 * lv r0 r1 r2 r3 r4 % 1361129467683753853853498429727072845819) ∧ Below w.heap.size w w' := by
 obtain ⟨n00, hn00⟩ : ∃ n, n = a0 * r0 := ⟨_, rfl⟩
 have bn00 : 0 ≤ n00 ∧ n00 < 18014398509481984 := by rw [hn00]; exact mul_b _ _ ha0 hr0
 have qn00 : IntKind.u64.wrap (a0 * r0) = n00 := by rw [← hn00, IntKind.wrap_u64]; omega
 have Hn00 : Hid (n00 = a0 * r0) := hn00
 clear hn00
 obtain ⟨_, _⟩ := bn00
 obtain ⟨n01, hn01⟩ : ∃ n, n = a0 * r1 := ⟨_, rfl⟩
 have bn01 : 0 ≤ n01 ∧ n01 < 18014398509481984 := by rw [hn01]; exact mul_b _ _ ha0 hr1
 have qn01 : IntKind.u64.wrap (a0 * r1) = n01 := by rw [← hn01, IntKind.wrap_u64]; omega
 have Hn01 : Hid (n01 = a0 * r1) := hn01
 clear hn01
 obtain ⟨_, _⟩ := bn01
 obtain ⟨n02, hn02⟩ : ∃ n, n = a0 * r2 := ⟨_, rfl⟩
 have bn02 : 0 ≤ n02 ∧ n02 < 18014398509481984 := by rw [hn02]; exact mul_b _ _ ha0 hr2
 have qn02 : IntKind.u64.wrap (a0 * r2) = n02 := by rw [← hn02, IntKind.wrap_u64]; omega
 have Hn02 : Hid (n02 = a0 * r2) := hn02
 clear hn02
 obtain ⟨_, _⟩ := bn02
 obtain ⟨n03, hn03⟩ : ∃ n, n = a0 * r3 := ⟨_, rfl⟩
 have bn03 : 0 ≤ n03 ∧ n03 < 18014398509481984 := by rw [hn03]; exact mul_b _ _ ha0 hr3
 have qn03 : IntKind.u64.wrap (a0 * r3) = n03 := by rw [← hn03, IntKind.wrap_u64]; omega
 have Hn03 : Hid (n03 = a0 * r3) := hn03
 clear hn03
 obtain ⟨_, _⟩ := bn03
 obtain ⟨n04, hn04⟩ : ∃ n, n = a0 * r4 := ⟨_, rfl⟩
 have bn04 : 0 ≤ n04 ∧ n04 < 18014398509481984 := by rw [hn04]; exact mul_b _ _ ha0 hr4
 have qn04 : IntKind.u64.wrap (a0 * r4) = n04 := by rw [← hn04, IntKind.wrap_u64]; omega
 have Hn04 : Hid (n04 = a0 * r4) := hn04
 clear hn04
 obtain ⟨_, _⟩ := bn04
 obtain ⟨n10, hn10⟩ : ∃ n, n = a1 * r0 := ⟨_, rfl⟩
 have bn10 : 0 ≤ n10 ∧ n10 < 18014398509481984 := by rw [hn10]; exact mul_b _ _ ha1 hr0
 have qn10 : IntKind.u64.wrap (a1 * r0) = n10 := by rw [← hn10, IntKind.wrap_u64]; omega
 have Hn10 : Hid (n10 = a1 * r0) := hn10
 clear hn10
 obtain ⟨_, _⟩ := bn10
 obtain ⟨n11, hn11⟩ : ∃ n, n = a1 * r1 := ⟨_, rfl⟩
 have bn11 : 0 ≤ n11 ∧ n11 < 18014398509481984 := by rw [hn11]; exact mul_b _ _ ha1 hr1
 have qn11 : IntKind.u64.wrap (a1 * r1) = n11 := by rw [← hn11, IntKind.wrap_u64]; omega
 have Hn11 : Hid (n11 = a1 * r1) := hn11
 clear hn11
 obtain ⟨_, _⟩ := bn11
 obtain ⟨n12, hn12⟩ : ∃ n, n = a1 * r2 := ⟨_, rfl⟩
 have bn12 : 0 ≤ n12 ∧ n12 < 18014398509481984 := by rw [hn12]; exact mul_b _ _ ha1 hr2
 have qn12 : IntKind.u64.wrap (a1 * r2) = n12 := by rw [← hn12, IntKind.wrap_u64]; omega
 have Hn12 : Hid (n12 = a1 * r2) := hn12
 clear hn12
 obtain ⟨_, _⟩ := bn12
 obtain ⟨n13, hn13⟩ : ∃ n, n = a1 * r3 := ⟨_, rfl⟩
 have bn13 : 0 ≤ n13 ∧ n13 < 18014398509481984 := by rw [hn13]; exact mul_b _ _ ha1 hr3
 have qn13 : IntKind.u64.wrap (a1 * r3) = n13 := by rw [← hn13, IntKind.wrap_u64]; omega
 have Hn13 : Hid (n13 = a1 * r3) := hn13
 clear hn13
 obtain ⟨_, _⟩ := bn13
 obtain ⟨n14v, hn14v⟩ : ∃ n, n = a1 * (5 * r4) := ⟨_, rfl⟩
 have bn14v : 0 ≤ n14v ∧ n14v < 90071992547409920 := by rw [hn14v]; exact mul_bv _ _ ha1 hr4
 have qn14v : IntKind.u64.wrap (a1 * (5 * r4)) = n14v := by rw [← hn14v, IntKind.wrap_u64]; omega
 have Hn14v : Hid (n14v = a1 * (5 * r4)) := hn14v
 clear hn14v
 obtain ⟨_, _⟩ := bn14v
 obtain ⟨n20, hn20⟩ : ∃ n, n = a2 * r0 := ⟨_, rfl⟩
 have bn20 : 0 ≤ n20 ∧ n20 < 18014398509481984 := by rw [hn20]; exact mul_b _ _ ha2 hr0
 have qn20 : IntKind.u64.wrap (a2 * r0) = n20 := by rw [← hn20, IntKind.wrap_u64]; omega
 have Hn20 : Hid (n20 = a2 * r0) := hn20
 clear hn20
 obtain ⟨_, _⟩ := bn20
 obtain ⟨n21, hn21⟩ : ∃ n, n = a2 * r1 := ⟨_, rfl⟩
 have bn21 : 0 ≤ n21 ∧ n21 < 18014398509481984 := by rw [hn21]; exact mul_b _ _ ha2 hr1
 have qn21 : IntKind.u64.wrap (a2 * r1) = n21 := by rw [← hn21, IntKind.wrap_u64]; omega
 have Hn21 : Hid (n21 = a2 * r1) := hn21
 clear hn21
 obtain ⟨_, _⟩ := bn21
 obtain ⟨n22, hn22⟩ : ∃ n, n = a2 * r2 := ⟨_, rfl⟩
 have bn22 : 0 ≤ n22 ∧ n22 < 18014398509481984 := by rw [hn22]; exact mul_b _ _ ha2 hr2
 have qn22 : IntKind.u64.wrap (a2 * r2) = n22 := by rw [← hn22, IntKind.wrap_u64]; omega
 have Hn22 : Hid (n22 = a2 * r2) := hn22
 clear hn22
 obtain ⟨_, _⟩ := bn22
 obtain ⟨n23v, hn23v⟩ : ∃ n, n = a2 * (5 * r3) := ⟨_, rfl⟩
 have bn23v : 0 ≤ n23v ∧ n23v < 90071992547409920 := by rw [hn23v]; exact mul_bv _ _ ha2 hr3
 have qn23v : IntKind.u64.wrap (a2 * (5 * r3)) = n23v := by rw [← hn23v, IntKind.wrap_u64]; omega
 have Hn23v : Hid (n23v = a2 * (5 * r3)) := hn23v
 clear hn23v
 obtain ⟨_, _⟩ := bn23v
 obtain ⟨n24v, hn24v⟩ : ∃ n, n = a2 * (5 * r4) := ⟨_, rfl⟩
 have bn24v : 0 ≤ n24v ∧ n24v < 90071992547409920 := by rw [hn24v]; exact mul_bv _ _ ha2 hr4
 have qn24v : IntKind.u64.wrap (a2 * (5 * r4)) = n24v := by rw [← hn24v, IntKind.wrap_u64]; omega
 have Hn24v : Hid (n24v = a2 * (5 * r4)) := hn24v
 clear hn24v
 obtain ⟨_, _⟩ := bn24v
 obtain ⟨n30, hn30⟩ : ∃ n, n = a3 * r0 := ⟨_, rfl⟩
 have bn30 : 0 ≤ n30 ∧ n30 < 18014398509481984 := by rw [hn30]; exact mul_b _ _ ha3 hr0
 have qn30 : IntKind.u64.wrap (a3 * r0) = n30 := by rw [← hn30, IntKind.wrap_u64]; omega
 have Hn30 : Hid (n30 = a3 * r0) := hn30
 clear hn30
 obtain ⟨_, _⟩ := bn30
 obtain ⟨n31, hn31⟩ : ∃ n, n = a3 * r1 := ⟨_, rfl⟩
 have bn31 : 0 ≤ n31 ∧ n31 < 18014398509481984 := by rw [hn31]; exact mul_b _ _ ha3 hr1
 have qn31 : IntKind.u64.wrap (a3 * r1) = n31 := by rw [← hn31, IntKind.wrap_u64]; omega
 have Hn31 : Hid (n31 = a3 * r1) := hn31
 clear hn31
 obtain ⟨_, _⟩ := bn31
 obtain ⟨n32v, hn32v⟩ : ∃ n, n = a3 * (5 * r2) := ⟨_, rfl⟩
 have bn32v : 0 ≤ n32v ∧ n32v < 90071992547409920 := by rw [hn32v]; exact mul_bv _ _ ha3 hr2
 have qn32v : IntKind.u64.wrap (a3 * (5 * r2)) = n32v := by rw [← hn32v, IntKind.wrap_u64]; omega
 have Hn32v : Hid (n32v = a3 * (5 * r2)) := hn32v
 clear hn32v
 obtain ⟨_, _⟩ := bn32v
 obtain ⟨n33v, hn33v⟩ : ∃ n, n = a3 * (5 * r3) := ⟨_, rfl⟩
 have bn33v : 0 ≤ n33v ∧ n33v < 90071992547409920 := by rw [hn33v]; exact mul_bv _ _ ha3 hr3
 have qn33v : IntKind.u64.wrap (a3 * (5 * r3)) = n33v := by rw [← hn33v, IntKind.wrap_u64]; omega
 have Hn33v : Hid (n33v = a3 * (5 * r3)) := hn33v
 clear hn33v
 obtain ⟨_, _⟩ := bn33v
 obtain ⟨n34v, hn34v⟩ : ∃ n, n = a3 * (5 * r4) := ⟨_, rfl⟩
 have bn34v : 0 ≤ n34v ∧ n34v < 90071992547409920 := by rw [hn34v]; exact mul_bv _ _ ha3 hr4
 have qn34v : IntKind.u64.wrap (a3 * (5 * r4)) = n34v := by rw [← hn34v, IntKind.wrap_u64]; omega
 have Hn34v : Hid (n34v = a3 * (5 * r4)) := hn34v
 clear hn34v
 obtain ⟨_, _⟩ := bn34v
 obtain ⟨n40, hn40⟩ : ∃ n, n = a4 * r0 := ⟨_, rfl⟩
 have bn40 : 0 ≤ n40 ∧ n40 < 18014398509481984 := by rw [hn40]; exact mul_b _ _ ha4 hr0
 have qn40 : IntKind.u64.wrap (a4 * r0) = n40 := by rw [← hn40, IntKind.wrap_u64]; omega
 have Hn40 : Hid (n40 = a4 * r0) := hn40
 clear hn40
 obtain ⟨_, _⟩ := bn40
 obtain ⟨n41v, hn41v⟩ : ∃ n, n = a4 * (5 * r1) := ⟨_, rfl⟩
 have bn41v : 0 ≤ n41v ∧ n41v < 90071992547409920 := by rw [hn41v]; exact mul_bv _ _ ha4 hr1
 have qn41v : IntKind.u64.wrap (a4 * (5 * r1)) = n41v := by rw [← hn41v, IntKind.wrap_u64]; omega
 have Hn41v : Hid (n41v = a4 * (5 * r1)) := hn41v
 clear hn41v
 obtain ⟨_, _⟩ := bn41v
 obtain ⟨n42v, hn42v⟩ : ∃ n, n = a4 * (5 * r2) := ⟨_, rfl⟩
 have bn42v : 0 ≤ n42v ∧ n42v < 90071992547409920 := by rw [hn42v]; exact mul_bv _ _ ha4 hr2
 have qn42v : IntKind.u64.wrap (a4 * (5 * r2)) = n42v := by rw [← hn42v, IntKind.wrap_u64]; omega
 have Hn42v : Hid (n42v = a4 * (5 * r2)) := hn42v
 clear hn42v
 obtain ⟨_, _⟩ := bn42v
 obtain ⟨n43v, hn43v⟩ : ∃ n, n = a4 * (5 * r3) := ⟨_, rfl⟩
 have bn43v : 0 ≤ n43v ∧ n43v < 90071992547409920 := by rw [hn43v]; exact mul_bv _ _ ha4 hr3
 have qn43v : IntKind.u64.wrap (a4 * (5 * r3)) = n43v := by rw [← hn43v, IntKind.wrap_u64]; omega
 have Hn43v : Hid (n43v = a4 * (5 * r3)) := hn43v
 clear hn43v
 obtain ⟨_, _⟩ := bn43v
 obtain ⟨n44v, hn44v⟩ : ∃ n, n = a4 * (5 * r4) := ⟨_, rfl⟩
 have bn44v : 0 ≤ n44v ∧ n44v < 90071992547409920 := by rw [hn44v]; exact mul_bv _ _ ha4 hr4
 have qn44v : IntKind.u64.wrap (a4 * (5 * r4)) = n44v := by rw [← hn44v, IntKind.wrap_u64]; omega
 have Hn44v : Hid (n44v = a4 * (5 * r4)) := hn44v
 clear hn44v
 obtain ⟨_, _⟩ := bn44v
 obtain ⟨_, _⟩ := ha0
 obtain ⟨_, _⟩ := ha1
 obtain ⟨_, _⟩ := ha2
 obtain ⟨_, _⟩ := ha3
 obtain ⟨_, _⟩ := ha4
 obtain ⟨_, _⟩ := hr0
 obtain ⟨_, _⟩ := hr1
 obtain ⟨_, _⟩ := hr2
 obtain ⟨_, _⟩ := hr3
 obtain ⟨_, _⟩ := hr4
 go_enter Tryz.func152, Tryz.ntmps152
 go_upto_region 2 with fail
 have HB : Hid (Below w.heap.size w (((w.alloc (.cells #[.int .u64 a0, .int .u64 a1, .int .u64 a2, .int .u64 a3, .int .u64 a4] 189)).alloc (.cells #[.int .u64 r0, .int .u64 r1, .int .u64 r2, .int .u64 r3, .int .u64 r4] 189)).alloc (.cells #[.int .u64 0, .int .u64 0, .int .u64 0, .int .u64 0, .int .u64 0] 189))) := bel3 _ _ _ _
 have ca0 : (((w.alloc (.cells #[.int .u64 a0, .int .u64 a1, .int .u64 a2, .int .u64 a3, .int .u64 a4] 189)).alloc (.cells #[.int .u64 r0, .int .u64 r1, .int .u64 r2, .int .u64 r3, .int .u64 r4] 189)).alloc (.cells #[.int .u64 0, .int .u64 0, .int .u64 0, .int .u64 0, .int .u64 0] 189)).cell? ⟨w.heap.size, 0, none⟩ = some (.int .u64 a0) := by simp [go_sem]
 have ca1 : (((w.alloc (.cells #[.int .u64 a0, .int .u64 a1, .int .u64 a2, .int .u64 a3, .int .u64 a4] 189)).alloc (.cells #[.int .u64 r0, .int .u64 r1, .int .u64 r2, .int .u64 r3, .int .u64 r4] 189)).alloc (.cells #[.int .u64 0, .int .u64 0, .int .u64 0, .int .u64 0, .int .u64 0] 189)).cell? ⟨w.heap.size, 1, none⟩ = some (.int .u64 a1) := by simp [go_sem]
 have ca2 : (((w.alloc (.cells #[.int .u64 a0, .int .u64 a1, .int .u64 a2, .int .u64 a3, .int .u64 a4] 189)).alloc (.cells #[.int .u64 r0, .int .u64 r1, .int .u64 r2, .int .u64 r3, .int .u64 r4] 189)).alloc (.cells #[.int .u64 0, .int .u64 0, .int .u64 0, .int .u64 0, .int .u64 0] 189)).cell? ⟨w.heap.size, 2, none⟩ = some (.int .u64 a2) := by simp [go_sem]
 have ca3 : (((w.alloc (.cells #[.int .u64 a0, .int .u64 a1, .int .u64 a2, .int .u64 a3, .int .u64 a4] 189)).alloc (.cells #[.int .u64 r0, .int .u64 r1, .int .u64 r2, .int .u64 r3, .int .u64 r4] 189)).alloc (.cells #[.int .u64 0, .int .u64 0, .int .u64 0, .int .u64 0, .int .u64 0] 189)).cell? ⟨w.heap.size, 3, none⟩ = some (.int .u64 a3) := by simp [go_sem]
 have ca4 : (((w.alloc (.cells #[.int .u64 a0, .int .u64 a1, .int .u64 a2, .int .u64 a3, .int .u64 a4] 189)).alloc (.cells #[.int .u64 r0, .int .u64 r1, .int .u64 r2, .int .u64 r3, .int .u64 r4] 189)).alloc (.cells #[.int .u64 0, .int .u64 0, .int .u64 0, .int .u64 0, .int .u64 0] 189)).cell? ⟨w.heap.size, 4, none⟩ = some (.int .u64 a4) := by simp [go_sem]
 have cr0 : (((w.alloc (.cells #[.int .u64 a0, .int .u64 a1, .int .u64 a2, .int .u64 a3, .int .u64 a4] 189)).alloc (.cells #[.int .u64 r0, .int .u64 r1, .int .u64 r2, .int .u64 r3, .int .u64 r4] 189)).alloc (.cells #[.int .u64 0, .int .u64 0, .int .u64 0, .int .u64 0, .int .u64 0] 189)).cell? ⟨w.heap.size + 1, 0, none⟩ = some (.int .u64 r0) := by simp [go_sem]
 have cr1 : (((w.alloc (.cells #[.int .u64 a0, .int .u64 a1, .int .u64 a2, .int .u64 a3, .int .u64 a4] 189)).alloc (.cells #[.int .u64 r0, .int .u64 r1, .int .u64 r2, .int .u64 r3, .int .u64 r4] 189)).alloc (.cells #[.int .u64 0, .int .u64 0, .int .u64 0, .int .u64 0, .int .u64 0] 189)).cell? ⟨w.heap.size + 1, 1, none⟩ = some (.int .u64 r1) := by simp [go_sem]
 have cr2 : (((w.alloc (.cells #[.int .u64 a0, .int .u64 a1, .int .u64 a2, .int .u64 a3, .int .u64 a4] 189)).alloc (.cells #[.int .u64 r0, .int .u64 r1, .int .u64 r2, .int .u64 r3, .int .u64 r4] 189)).alloc (.cells #[.int .u64 0, .int .u64 0, .int .u64 0, .int .u64 0, .int .u64 0] 189)).cell? ⟨w.heap.size + 1, 2, none⟩ = some (.int .u64 r2) := by simp [go_sem]
 have cr3 : (((w.alloc (.cells #[.int .u64 a0, .int .u64 a1, .int .u64 a2, .int .u64 a3, .int .u64 a4] 189)).alloc (.cells #[.int .u64 r0, .int .u64 r1, .int .u64 r2, .int .u64 r3, .int .u64 r4] 189)).alloc (.cells #[.int .u64 0, .int .u64 0, .int .u64 0, .int .u64 0, .int .u64 0] 189)).cell? ⟨w.heap.size + 1, 3, none⟩ = some (.int .u64 r3) := by simp [go_sem]
 have cr4 : (((w.alloc (.cells #[.int .u64 a0, .int .u64 a1, .int .u64 a2, .int .u64 a3, .int .u64 a4] 189)).alloc (.cells #[.int .u64 r0, .int .u64 r1, .int .u64 r2, .int .u64 r3, .int .u64 r4] 189)).alloc (.cells #[.int .u64 0, .int .u64 0, .int .u64 0, .int .u64 0, .int .u64 0] 189)).cell? ⟨w.heap.size + 1, 4, none⟩ = some (.int .u64 r4) := by simp [go_sem]
 have cz0 : (((w.alloc (.cells #[.int .u64 a0, .int .u64 a1, .int .u64 a2, .int .u64 a3, .int .u64 a4] 189)).alloc (.cells #[.int .u64 r0, .int .u64 r1, .int .u64 r2, .int .u64 r3, .int .u64 r4] 189)).alloc (.cells #[.int .u64 0, .int .u64 0, .int .u64 0, .int .u64 0, .int .u64 0] 189)).cell? ⟨w.heap.size + 2, 0, none⟩ = some (.int .u64 0) := by simp [go_sem]
 have cz1 : (((w.alloc (.cells #[.int .u64 a0, .int .u64 a1, .int .u64 a2, .int .u64 a3, .int .u64 a4] 189)).alloc (.cells #[.int .u64 r0, .int .u64 r1, .int .u64 r2, .int .u64 r3, .int .u64 r4] 189)).alloc (.cells #[.int .u64 0, .int .u64 0, .int .u64 0, .int .u64 0, .int .u64 0] 189)).cell? ⟨w.heap.size + 2, 1, none⟩ = some (.int .u64 0) := by simp [go_sem]
 have cz2 : (((w.alloc (.cells #[.int .u64 a0, .int .u64 a1, .int .u64 a2, .int .u64 a3, .int .u64 a4] 189)).alloc (.cells #[.int .u64 r0, .int .u64 r1, .int .u64 r2, .int .u64 r3, .int .u64 r4] 189)).alloc (.cells #[.int .u64 0, .int .u64 0, .int .u64 0, .int .u64 0, .int .u64 0] 189)).cell? ⟨w.heap.size + 2, 2, none⟩ = some (.int .u64 0) := by simp [go_sem]
 have cz3 : (((w.alloc (.cells #[.int .u64 a0, .int .u64 a1, .int .u64 a2, .int .u64 a3, .int .u64 a4] 189)).alloc (.cells #[.int .u64 r0, .int .u64 r1, .int .u64 r2, .int .u64 r3, .int .u64 r4] 189)).alloc (.cells #[.int .u64 0, .int .u64 0, .int .u64 0, .int .u64 0, .int .u64 0] 189)).cell? ⟨w.heap.size + 2, 3, none⟩ = some (.int .u64 0) := by simp [go_sem]
 have cz4 : (((w.alloc (.cells #[.int .u64 a0, .int .u64 a1, .int .u64 a2, .int .u64 a3, .int .u64 a4] 189)).alloc (.cells #[.int .u64 r0, .int .u64 r1, .int .u64 r2, .int .u64 r3, .int .u64 r4] 189)).alloc (.cells #[.int .u64 0, .int .u64 0, .int .u64 0, .int .u64 0, .int .u64 0] 189)).cell? ⟨w.heap.size + 2, 4, none⟩ = some (.int .u64 0) := by simp [go_sem]
 have fz0 : (((w.alloc (.cells #[.int .u64 a0, .int .u64 a1, .int .u64 a2, .int .u64 a3, .int .u64 a4] 189)).alloc (.cells #[.int .u64 r0, .int .u64 r1, .int .u64 r2, .int .u64 r3, .int .u64 r4] 189)).alloc (.cells #[.int .u64 0, .int .u64 0, .int .u64 0, .int .u64 0, .int .u64 0] 189)).frozen? ⟨w.heap.size + 2, 0, none⟩ = false := by simp [go_sem]
 have fz1 : (((w.alloc (.cells #[.int .u64 a0, .int .u64 a1, .int .u64 a2, .int .u64 a3, .int .u64 a4] 189)).alloc (.cells #[.int .u64 r0, .int .u64 r1, .int .u64 r2, .int .u64 r3, .int .u64 r4] 189)).alloc (.cells #[.int .u64 0, .int .u64 0, .int .u64 0, .int .u64 0, .int .u64 0] 189)).frozen? ⟨w.heap.size + 2, 1, none⟩ = false := by simp [go_sem]
 have fz2 : (((w.alloc (.cells #[.int .u64 a0, .int .u64 a1, .int .u64 a2, .int .u64 a3, .int .u64 a4] 189)).alloc (.cells #[.int .u64 r0, .int .u64 r1, .int .u64 r2, .int .u64 r3, .int .u64 r4] 189)).alloc (.cells #[.int .u64 0, .int .u64 0, .int .u64 0, .int .u64 0, .int .u64 0] 189)).frozen? ⟨w.heap.size + 2, 2, none⟩ = false := by simp [go_sem]
 have fz3 : (((w.alloc (.cells #[.int .u64 a0, .int .u64 a1, .int .u64 a2, .int .u64 a3, .int .u64 a4] 189)).alloc (.cells #[.int .u64 r0, .int .u64 r1, .int .u64 r2, .int .u64 r3, .int .u64 r4] 189)).alloc (.cells #[.int .u64 0, .int .u64 0, .int .u64 0, .int .u64 0, .int .u64 0] 189)).frozen? ⟨w.heap.size + 2, 3, none⟩ = false := by simp [go_sem]
 have fz4 : (((w.alloc (.cells #[.int .u64 a0, .int .u64 a1, .int .u64 a2, .int .u64 a3, .int .u64 a4] 189)).alloc (.cells #[.int .u64 r0, .int .u64 r1, .int .u64 r2, .int .u64 r3, .int .u64 r4] 189)).alloc (.cells #[.int .u64 0, .int .u64 0, .int .u64 0, .int .u64 0, .int .u64 0] 189)).frozen? ⟨w.heap.size + 2, 4, none⟩ = false := by simp [go_sem]
 generalize (((w.alloc (.cells #[.int .u64 a0, .int .u64 a1, .int .u64 a2, .int .u64 a3, .int .u64 a4] 189)).alloc (.cells #[.int .u64 r0, .int .u64 r1, .int .u64 r2, .int .u64 r3, .int .u64 r4] 189)).alloc (.cells #[.int .u64 0, .int .u64 0, .int .u64 0, .int .u64 0, .int .u64 0] 189)) = W0 at *
 have v1 : IntKind.u64.wrap (5 * r1) = 5 * r1 := by rw [IntKind.wrap_u64]; omega
 have v2 : IntKind.u64.wrap (5 * r2) = 5 * r2 := by rw [IntKind.wrap_u64]; omega
 have v3 : IntKind.u64.wrap (5 * r3) = 5 * r3 := by rw [IntKind.wrap_u64]; omega
 have v4 : IntKind.u64.wrap (5 * r4) = 5 * r4 := by rw [IntKind.wrap_u64]; omega
 go_quiet (fail)
 go_wp2
 refine bodyPost_ret (v := (.agg #[.int .u64 (n00 + n14v + n23v + n32v + n41v), .int .u64 (n01 + n10 + n24v + n33v + n42v), .int .u64 (n02 + n11 + n20 + n34v + n43v), .int .u64 (n03 + n12 + n21 + n30 + n44v), .int .u64 (n04 + n13 + n22 + n31 + n40)])) (by simp [results, Tryz.results152, go_sem, cz0, cz1, cz2, cz3, cz4]) rfl ⟨_, _, _, _, _, rfl, ⟨by omega, by omega⟩, ⟨by omega, by omega⟩, ⟨by omega, by omega⟩, ⟨by omega, by omega⟩, ⟨by omega, by omega⟩, ?_, ?_⟩
 ·have e := lv_mul a0 a1 a2 a3 a4 r0 r1 r2 r3 r4
  rw [← Hn00.out, ← Hn01.out, ← Hn02.out, ← Hn03.out, ← Hn04.out, ← Hn10.out, ← Hn11.out, ← Hn12.out, ← Hn13.out, ← Hn14v.out, ← Hn20.out, ← Hn21.out, ← Hn22.out, ← Hn23v.out, ← Hn24v.out, ← Hn30.out, ← Hn31.out, ← Hn32v.out, ← Hn33v.out, ← Hn34v.out, ← Hn40.out, ← Hn41v.out, ← Hn42v.out, ← Hn43v.out, ← Hn44v.out] at e
  exact e
 ·exact (((((belowN HB.out nq).setCell (by dsimp only; omega) _).setCell (by dsimp only; omega) _).setCell (by dsimp only; omega) _).setCell (by dsimp only; omega) _).setCell (by dsimp only; omega) _
end Go.Proofs.YtlnbjehimabaiaaGreatDoor
/-
 What poly's carried and lowest128 do, for whatever limbs within their bounds. No statement of the seat is proved here.
-/
namespace Go.Proofs.YtlnbjehimabaiaaGreatDoor
open Go.RowKit
set_option maxRecDepth 8000

/-- How the carries run. -/
structure Cr (a0 a1 a2 a3 a4 b0 b1 b2 b3 b4 : Int) : Prop where
 run : ∃ o0 o1 o2 o3 o4 o5 d0 d1 : Int, (0 ≤ d0 ∧ d0 < 67108864 ∧ a0 = d0 + 67108864 * o0 ∧ 0 ≤ o0) ∧ (0 ≤ d1 ∧ d1 < 67108864 ∧ a1 + o0 = d1 + 67108864 * o1 ∧ 0 ≤ o1) ∧ (0 ≤ b2 ∧ b2 < 67108864 ∧ a2 + o1 = b2 + 67108864 * o2 ∧ 0 ≤ o2) ∧ (0 ≤ b3 ∧ b3 < 67108864 ∧ a3 + o2 = b3 + 67108864 * o3 ∧ 0 ≤ o3) ∧ (0 ≤ b4 ∧ b4 < 67108864 ∧ a4 + o3 = b4 + 67108864 * o4 ∧ 0 ≤ o4) ∧ (0 ≤ b0 ∧ b0 < 67108864 ∧ d0 + 5 * o4 = b0 + 67108864 * o5 ∧ 0 ≤ o5) ∧ b1 = d1 + o5
theorem Cr.bound {a0 a1 a2 a3 a4 b0 b1 b2 b3 b4 : Int} (h : Cr a0 a1 a2 a3 a4 b0 b1 b2 b3 b4) (ha0 : 0 ≤ a0 ∧ a0 < 576460752303423488) (ha1 : 0 ≤ a1 ∧ a1 < 576460752303423488) (ha2 : 0 ≤ a2 ∧ a2 < 576460752303423488) (ha3 : 0 ≤ a3 ∧ a3 < 576460752303423488) (ha4 : 0 ≤ a4 ∧ a4 < 576460752303423488) : (0 ≤ b0 ∧ b0 < 67108864) ∧ (0 ≤ b1 ∧ b1 < 67112960) ∧ (0 ≤ b2 ∧ b2 < 67108864) ∧ (0 ≤ b3 ∧ b3 < 67108864) ∧ (0 ≤ b4 ∧ b4 < 67108864) := by
 obtain ⟨o0, o1, o2, o3, o4, o5, d0, d1, h0, h1, h2, h3, h4, h5, rfl⟩ := h.run
 omega
theorem Cr.same {a0 a1 a2 a3 a4 b0 b1 b2 b3 b4 : Int} (h : Cr a0 a1 a2 a3 a4 b0 b1 b2 b3 b4) : lv b0 b1 b2 b3 b4 % 1361129467683753853853498429727072845819 = lv a0 a1 a2 a3 a4 % 1361129467683753853853498429727072845819 := by
 obtain ⟨o0, o1, o2, o3, o4, o5, d0, d1, h0, h1, h2, h3, h4, h5, rfl⟩ := h.run
 have e : lv a0 a1 a2 a3 a4 = lv b0 (d1 + o5) b2 b3 b4 + 1361129467683753853853498429727072845819 * o4 := by unfold lv; omega
 rw [e, Int.add_mul_emod_self_left]
/-- Carried once more, all limbs lie below their end. -/
theorem Cr.small {a0 a1 a2 a3 a4 b0 b1 b2 b3 b4 : Int} (h : Cr a0 a1 a2 a3 a4 b0 b1 b2 b3 b4) (h0 : 0 ≤ a0 ∧ a0 < 67108864) (h1 : 0 ≤ a1 ∧ a1 < 67112960) (h2 : 0 ≤ a2 ∧ a2 < 67108864) (h3 : 0 ≤ a3 ∧ a3 < 67108864) (h4 : 0 ≤ a4 ∧ a4 < 67108864) : 0 ≤ b1 ∧ b1 < 67108864 := by
 obtain ⟨o0, o1, o2, o3, o4, o5, d0, d1, k0, k1, k2, k3, k4, k5, rfl⟩ := h.run
 omega
set_option maxHeartbeats 2000000 in
theorem carried_c (a0 a1 a2 a3 a4 : Int) (ha0 : 0 ≤ a0 ∧ a0 < 576460752303423488) (ha1 : 0 ≤ a1 ∧ a1 < 576460752303423488) (ha2 : 0 ≤ a2 ∧ a2 < 576460752303423488) (ha3 : 0 ≤ a3 ∧ a3 < 576460752303423488) (ha4 : 0 ≤ a4 ∧ a4 < 576460752303423488) (w : World) :
  Calls Tryz.prog 151 #[(.agg #[.int .u64 a0, .int .u64 a1, .int .u64 a2, .int .u64 a3, .int .u64 a4])] w fun e w' => ∃ b0 b1 b2 b3 b4, e = .returned (.agg #[.int .u64 b0, .int .u64 b1, .int .u64 b2, .int .u64 b3, .int .u64 b4]) ∧ Hid (Cr a0 a1 a2 a3 a4 b0 b1 b2 b3 b4) ∧ Below w.heap.size w w' := by
 obtain ⟨_, _⟩ := ha0
 obtain ⟨_, _⟩ := ha1
 obtain ⟨_, _⟩ := ha2
 obtain ⟨_, _⟩ := ha3
 obtain ⟨_, _⟩ := ha4
 obtain ⟨o0, ho0⟩ : ∃ o, a0 / 67108864 = o := ⟨_, rfl⟩
 obtain ⟨d0, hd0⟩ : ∃ d, bits .and .u64 a0 67108863 = d := ⟨_, rfl⟩
 have E0 : Hid (0 ≤ d0 ∧ d0 < 67108864 ∧ a0 = d0 + 67108864 * o0 ∧ 0 ≤ o0 ∧ o0 ≤ 8589935616) := by
  have := mask26 a0 ⟨by omega, by omega⟩
  unfold Hid; omega
 have p0 : 0 ≤ o0 ∧ o0 ≤ 8589935616 := E0.out.2.2.2
 have t0 : 0 ≤ d0 ∧ d0 < 67108864 := ⟨E0.out.1, E0.out.2.1⟩
 obtain ⟨_, _⟩ := p0
 obtain ⟨_, _⟩ := t0
 obtain ⟨o1, ho1⟩ : ∃ o, (a1 + o0) / 67108864 = o := ⟨_, rfl⟩
 obtain ⟨d1, hd1⟩ : ∃ d, bits .and .u64 (a1 + o0) 67108863 = d := ⟨_, rfl⟩
 have E1 : Hid (0 ≤ d1 ∧ d1 < 67108864 ∧ a1 + o0 = d1 + 67108864 * o1 ∧ 0 ≤ o1 ∧ o1 ≤ 8589935616) := by
  have := mask26 (a1 + o0) ⟨by omega, by omega⟩
  unfold Hid; omega
 have p1 : 0 ≤ o1 ∧ o1 ≤ 8589935616 := E1.out.2.2.2
 have t1 : 0 ≤ d1 ∧ d1 < 67108864 := ⟨E1.out.1, E1.out.2.1⟩
 obtain ⟨_, _⟩ := p1
 obtain ⟨_, _⟩ := t1
 obtain ⟨o2, ho2⟩ : ∃ o, (a2 + o1) / 67108864 = o := ⟨_, rfl⟩
 obtain ⟨d2, hd2⟩ : ∃ d, bits .and .u64 (a2 + o1) 67108863 = d := ⟨_, rfl⟩
 have E2 : Hid (0 ≤ d2 ∧ d2 < 67108864 ∧ a2 + o1 = d2 + 67108864 * o2 ∧ 0 ≤ o2 ∧ o2 ≤ 8589935616) := by
  have := mask26 (a2 + o1) ⟨by omega, by omega⟩
  unfold Hid; omega
 have p2 : 0 ≤ o2 ∧ o2 ≤ 8589935616 := E2.out.2.2.2
 have t2 : 0 ≤ d2 ∧ d2 < 67108864 := ⟨E2.out.1, E2.out.2.1⟩
 obtain ⟨_, _⟩ := p2
 obtain ⟨_, _⟩ := t2
 obtain ⟨o3, ho3⟩ : ∃ o, (a3 + o2) / 67108864 = o := ⟨_, rfl⟩
 obtain ⟨d3, hd3⟩ : ∃ d, bits .and .u64 (a3 + o2) 67108863 = d := ⟨_, rfl⟩
 have E3 : Hid (0 ≤ d3 ∧ d3 < 67108864 ∧ a3 + o2 = d3 + 67108864 * o3 ∧ 0 ≤ o3 ∧ o3 ≤ 8589935616) := by
  have := mask26 (a3 + o2) ⟨by omega, by omega⟩
  unfold Hid; omega
 have p3 : 0 ≤ o3 ∧ o3 ≤ 8589935616 := E3.out.2.2.2
 have t3 : 0 ≤ d3 ∧ d3 < 67108864 := ⟨E3.out.1, E3.out.2.1⟩
 obtain ⟨_, _⟩ := p3
 obtain ⟨_, _⟩ := t3
 obtain ⟨o4, ho4⟩ : ∃ o, (a4 + o3) / 67108864 = o := ⟨_, rfl⟩
 obtain ⟨d4, hd4⟩ : ∃ d, bits .and .u64 (a4 + o3) 67108863 = d := ⟨_, rfl⟩
 have E4 : Hid (0 ≤ d4 ∧ d4 < 67108864 ∧ a4 + o3 = d4 + 67108864 * o4 ∧ 0 ≤ o4 ∧ o4 ≤ 8589935616) := by
  have := mask26 (a4 + o3) ⟨by omega, by omega⟩
  unfold Hid; omega
 have p4 : 0 ≤ o4 ∧ o4 ≤ 8589935616 := E4.out.2.2.2
 have t4 : 0 ≤ d4 ∧ d4 < 67108864 := ⟨E4.out.1, E4.out.2.1⟩
 obtain ⟨_, _⟩ := p4
 obtain ⟨_, _⟩ := t4
 obtain ⟨o5, ho5⟩ : ∃ o, (d0 + 5 * o4) / 67108864 = o := ⟨_, rfl⟩
 obtain ⟨d5, hd5⟩ : ∃ d, bits .and .u64 (d0 + 5 * o4) 67108863 = d := ⟨_, rfl⟩
 have E5 : Hid (0 ≤ d5 ∧ d5 < 67108864 ∧ d0 + 5 * o4 = d5 + 67108864 * o5 ∧ 0 ≤ o5 ∧ o5 ≤ 1000) := by
  have := mask26 (d0 + 5 * o4) ⟨by omega, by omega⟩
  unfold Hid; omega
 have p5 : 0 ≤ o5 ∧ o5 ≤ 1000 := E5.out.2.2.2
 obtain ⟨_, _⟩ := p5
 go_enter Tryz.func151, Tryz.ntmps151
 go_wp2
 refine wp_loop_rounds 6 ?_
 rw [rounds_succ]; go_wp2
 rw [rounds_succ]; go_wp2
 rw [rounds_succ]; go_wp2
 rw [rounds_succ]; go_wp2
 rw [rounds_succ]; go_wp2
 rw [rounds_succ]; go_wp2
 refine bodyPost_ret (v := (.agg #[.int .u64 d5, .int .u64 (d1 + o5), .int .u64 d2, .int .u64 d3, .int .u64 d4])) (by simp [results, Tryz.results151, go_sem]) rfl ⟨_, _, _, _, _, rfl, ?_, ?_⟩
 ·exact ⟨o0, o1, o2, o3, o4, o5, d0, d1, ⟨E0.out.1, E0.out.2.1, E0.out.2.2.1, E0.out.2.2.2.1⟩, ⟨E1.out.1, E1.out.2.1, E1.out.2.2.1, E1.out.2.2.2.1⟩, ⟨E2.out.1, E2.out.2.1, E2.out.2.2.1, E2.out.2.2.2.1⟩, ⟨E3.out.1, E3.out.2.1, E3.out.2.2.1, E3.out.2.2.2.1⟩, ⟨E4.out.1, E4.out.2.1, E4.out.2.2.1, E4.out.2.2.2.1⟩, ⟨E5.out.1, E5.out.2.1, E5.out.2.2.1, E5.out.2.2.2.1⟩, rfl⟩
 ·exact bel2 _ _ _
end Go.Proofs.YtlnbjehimabaiaaGreatDoor
/-
 What poly's lowest128 does, for whatever limbs that were carried once. No statement of the seat is proved here.
-/
namespace Go.Proofs.YtlnbjehimabaiaaGreatDoor
open Go.RowKit
set_option maxRecDepth 8000

theorem or26 (a b : Int) (ha : 0 ≤ a ∧ a < 67108864) (hb : 0 ≤ b ∧ b < 67108864) : bits .or .u64 a (b * 67108864) = a + b * 67108864 := or64 a b 26 67108864 (by decide) ha.1 ha.2 hb.1 (by omega)
theorem or52 (a b : Int) (ha : 0 ≤ a ∧ a < 4503599627370496) (_hb : 0 ≤ b ∧ b < 67108864) : bits .or .u64 a (IntKind.u64.wrap (b * 4503599627370496)) = a + b % 4096 * 4503599627370496 := by
 rw [IntKind.wrap_u64]
 have e : b * 4503599627370496 % 18446744073709551616 = b % 4096 * 4503599627370496 := by omega
 rw [e, or64 a (b % 4096) 52 4503599627370496 (by decide) ha.1 ha.2 (by omega) (by omega)]
theorem or14 (a b : Int) (ha : 0 ≤ a ∧ a < 16384) (hb : 0 ≤ b ∧ b < 67108864) : bits .or .u64 a (b * 16384) = a + b * 16384 := or64 a b 14 16384 (by decide) ha.1 ha.2 hb.1 (by omega)
theorem or40 (a b : Int) (ha : 0 ≤ a ∧ a < 1099511627776) (_hb : 0 ≤ b ∧ b < 67108864) : bits .or .u64 a (IntKind.u64.wrap (b * 1099511627776)) = a + b % 16777216 * 1099511627776 := by
 rw [IntKind.wrap_u64]
 have e : b * 1099511627776 % 18446744073709551616 = b % 16777216 * 1099511627776 := by omega
 rw [e, or64 a (b % 16777216) 40 1099511627776 (by decide) ha.1 ha.2 (by omega) (by omega)]
theorem low_fin (b0 b1 b2 b3 b4 v1 v2 v3 v4 v5 lo hi c : Int) (h0 : 0 ≤ b0 ∧ b0 < 67108864) (h1 : 0 ≤ b1 ∧ b1 < 67108864) (h2 : 0 ≤ b2 ∧ b2 < 67108864) (h3 : 0 ≤ b3 ∧ b3 < 67108864) (h4 : 0 ≤ b4 ∧ b4 < 67108864)
  (e1 : (b0 + 5) / 67108864 = v1) (e2 : (b1 + v1) / 67108864 = v2) (e3 : (b2 + v2) / 67108864 = v3) (e4 : (b3 + v3) / 67108864 = v4) (e5 : (b4 + v4) / 67108864 = v5)
  (hl : lo = (b0 + b1 * 67108864 + b2 % 4096 * 4503599627370496 + 5 * v5) % 18446744073709551616) (hc : c = (b0 + b1 * 67108864 + b2 % 4096 * 4503599627370496 + 5 * v5) / 18446744073709551616)
  (hh : hi = (b2 / 4096 + b3 * 16384 + b4 % 16777216 * 1099511627776 + c) % 18446744073709551616) :
  lo + hi * 18446744073709551616 = lv b0 b1 b2 b3 b4 % 1361129467683753853853498429727072845819 % 340282366920938463463374607431768211456 := by
 have hv : lv b0 b1 b2 b3 b4 % 1361129467683753853853498429727072845819 = lv b0 b1 b2 b3 b4 - 1361129467683753853853498429727072845819 * v5 := by unfold lv; omega
 rw [hv]
 unfold lv
 omega
set_option maxHeartbeats 2000000 in
theorem lowest_c (a0 a1 a2 a3 a4 : Int) (ha0 : 0 ≤ a0 ∧ a0 < 67108864) (ha1 : 0 ≤ a1 ∧ a1 < 67112960) (ha2 : 0 ≤ a2 ∧ a2 < 67108864) (ha3 : 0 ≤ a3 ∧ a3 < 67108864) (ha4 : 0 ≤ a4 ∧ a4 < 67108864) (w : World) :
  Calls Tryz.prog 155 #[(.agg #[.int .u64 a0, .int .u64 a1, .int .u64 a2, .int .u64 a3, .int .u64 a4])] w fun e w' => ∃ lo hi, e = .returned (.tuple #[.int .u64 lo, .int .u64 hi]) ∧ Wq lo ∧ Wq hi ∧ Hid (lo + hi * 18446744073709551616 = lv a0 a1 a2 a3 a4 % 1361129467683753853853498429727072845819 % 340282366920938463463374607431768211456) ∧ Below w.heap.size w w' := by
 go_enter Tryz.func155, Tryz.ntmps155
 go_wp2_with fail
 refine (carried_c a0 a1 a2 a3 a4 ⟨by omega, by omega⟩ ⟨by omega, by omega⟩ ⟨by omega, by omega⟩ ⟨by omega, by omega⟩ ⟨by omega, by omega⟩ _).mono ?_
 rintro e W1 ⟨b0, b1, b2, b3, b4, rfl, HC, hb⟩
 have g1 := HC.out.small ha0 ha1 ha2 ha3 ha4
 obtain ⟨g0, -, g2, g3, g4⟩ := HC.out.bound ⟨by omega, by omega⟩ ⟨by omega, by omega⟩ ⟨by omega, by omega⟩ ⟨by omega, by omega⟩ ⟨by omega, by omega⟩
 have HS : Hid (lv b0 b1 b2 b3 b4 % 1361129467683753853853498429727072845819 = lv a0 a1 a2 a3 a4 % 1361129467683753853853498429727072845819) := HC.out.same
 have HG : Hid ((0 ≤ b0 ∧ b0 < 67108864) ∧ (0 ≤ b1 ∧ b1 < 67108864) ∧ (0 ≤ b2 ∧ b2 < 67108864) ∧ (0 ≤ b3 ∧ b3 < 67108864) ∧ (0 ≤ b4 ∧ b4 < 67108864)) := ⟨g0, g1, g2, g3, g4⟩
 have c0 : W1.cell? ⟨w.heap.size, 0, none⟩ = some (.int .u64 a0) := cell_later hb (by simp [go_sem])
 have c1 : W1.cell? ⟨w.heap.size, 1, none⟩ = some (.int .u64 a1) := cell_later hb (by simp [go_sem])
 have c2 : W1.cell? ⟨w.heap.size, 2, none⟩ = some (.int .u64 a2) := cell_later hb (by simp [go_sem])
 have c3 : W1.cell? ⟨w.heap.size, 3, none⟩ = some (.int .u64 a3) := cell_later hb (by simp [go_sem])
 have c4 : W1.cell? ⟨w.heap.size, 4, none⟩ = some (.int .u64 a4) := cell_later hb (by simp [go_sem])
 have f0 : W1.frozen? ⟨w.heap.size, 0, none⟩ = false := froz_later hb (by simp) (by simp [go_sem])
 have f1 : W1.frozen? ⟨w.heap.size, 1, none⟩ = false := froz_later hb (by simp) (by simp [go_sem])
 have f2 : W1.frozen? ⟨w.heap.size, 2, none⟩ = false := froz_later hb (by simp) (by simp [go_sem])
 have f3 : W1.frozen? ⟨w.heap.size, 3, none⟩ = false := froz_later hb (by simp) (by simp [go_sem])
 have f4 : W1.frozen? ⟨w.heap.size, 4, none⟩ = false := froz_later hb (by simp) (by simp [go_sem])
 have HB : Hid (Below w.heap.size w W1) := (bel1 w _).trans (hb.mono (by simp))
 clear hb HC
 obtain ⟨_, _⟩ := g0
 obtain ⟨_, _⟩ := g1
 obtain ⟨_, _⟩ := g2
 obtain ⟨_, _⟩ := g3
 obtain ⟨_, _⟩ := g4
 obtain ⟨v1, e1⟩ : ∃ v, (b0 + 5) / 67108864 = v := ⟨_, rfl⟩
 have hv1 : 0 ≤ v1 ∧ v1 ≤ 1 := by omega
 obtain ⟨_, _⟩ := hv1
 obtain ⟨v2, e2⟩ : ∃ v, (b1 + v1) / 67108864 = v := ⟨_, rfl⟩
 have hv2 : 0 ≤ v2 ∧ v2 ≤ 1 := by omega
 obtain ⟨_, _⟩ := hv2
 obtain ⟨v3, e3⟩ : ∃ v, (b2 + v2) / 67108864 = v := ⟨_, rfl⟩
 have hv3 : 0 ≤ v3 ∧ v3 ≤ 1 := by omega
 obtain ⟨_, _⟩ := hv3
 obtain ⟨v4, e4⟩ : ∃ v, (b3 + v3) / 67108864 = v := ⟨_, rfl⟩
 have hv4 : 0 ≤ v4 ∧ v4 ≤ 1 := by omega
 obtain ⟨_, _⟩ := hv4
 obtain ⟨v5, e5⟩ : ∃ v, (b4 + v4) / 67108864 = v := ⟨_, rfl⟩
 have hv5 : 0 ≤ v5 ∧ v5 ≤ 1 := by omega
 obtain ⟨_, _⟩ := hv5
 have q1 := or26 b0 b1 HG.out.1 HG.out.2.1
 have q2 := or52 (b0 + b1 * 67108864) b2 ⟨by omega, by omega⟩ HG.out.2.2.1
 have q3 := or14 (b2 / 4096) b3 ⟨by omega, by omega⟩ HG.out.2.2.2.1
 have q4 := or40 (b2 / 4096 + b3 * 16384) b4 ⟨by omega, by omega⟩ HG.out.2.2.2.2
 obtain ⟨x, hx⟩ : ∃ x, b0 + b1 * 67108864 + b2 % 4096 * 4503599627370496 = x := ⟨_, rfl⟩
 have hxb : 0 ≤ x ∧ x < 18446744073709551616 := by omega
 rw [hx] at q2
 obtain ⟨lo, hlo⟩ : ∃ z, (x + 5 * v5 + 0) % 18446744073709551616 = z := ⟨_, rfl⟩
 obtain ⟨c, hc⟩ : ∃ z, (x + 5 * v5 + 0) / 18446744073709551616 = z := ⟨_, rfl⟩
 have hadd := fun u => padd64 x (5 * v5) 0 hxb.1 (by omega) (by decide) (by decide) u
 simp only [hlo, hc] at hadd
 have hcb : 0 ≤ c ∧ c ≤ 1 := by omega
 obtain ⟨y, hy⟩ : ∃ y, b2 / 4096 + b3 * 16384 + b4 % 16777216 * 1099511627776 = y := ⟨_, rfl⟩
 have hyb : 0 ≤ y ∧ y < 18446744073709551616 := by omega
 rw [hy] at q4
 obtain ⟨hi, hhi⟩ : ∃ z, IntKind.u64.wrap (y + c) = z := ⟨_, rfl⟩
 have HF : Hid (Wq lo ∧ Wq hi ∧ lo + hi * 18446744073709551616 = lv a0 a1 a2 a3 a4 % 1361129467683753853853498429727072845819 % 340282366920938463463374607431768211456) := by
  rw [IntKind.wrap_u64] at hhi
  refine ⟨⟨by omega, by omega⟩, ⟨by omega, by omega⟩, ?_⟩
  rw [← HS.out]
  exact low_fin b0 b1 b2 b3 b4 v1 v2 v3 v4 v5 lo hi c HG.out.1 HG.out.2.1 HG.out.2.2.1 HG.out.2.2.2.1 HG.out.2.2.2.2 e1 e2 e3 e4 e5 (by rw [hx, ← hlo, Int.add_zero]) (by rw [hx, ← hc, Int.add_zero]) (by rw [hy, ← hhi])
 obtain ⟨_, _⟩ := hxb
 obtain ⟨_, _⟩ := hyb
 obtain ⟨_, _⟩ := hcb
 clear hx hy hlo hc HS HG
 have ix0 : ∀ u, Sem.run Tryz.prog (Instr.index 189 (.agg #[.int .u64 b0, .int .u64 b1, .int .u64 b2, .int .u64 b3, .int .u64 b4]) (.int .i64 0)) u = .ok (.int .u64 b0) u := fun u => by simp [Instr.index, run_underlying Tryz.underlying189, asIntOf, go_sem]
 have ix1 : ∀ u, Sem.run Tryz.prog (Instr.index 189 (.agg #[.int .u64 b0, .int .u64 b1, .int .u64 b2, .int .u64 b3, .int .u64 b4]) (.int .i64 1)) u = .ok (.int .u64 b1) u := fun u => by simp [Instr.index, run_underlying Tryz.underlying189, asIntOf, go_sem]
 have ix2 : ∀ u, Sem.run Tryz.prog (Instr.index 189 (.agg #[.int .u64 b0, .int .u64 b1, .int .u64 b2, .int .u64 b3, .int .u64 b4]) (.int .i64 2)) u = .ok (.int .u64 b2) u := fun u => by simp [Instr.index, run_underlying Tryz.underlying189, asIntOf, go_sem]
 have ix3 : ∀ u, Sem.run Tryz.prog (Instr.index 189 (.agg #[.int .u64 b0, .int .u64 b1, .int .u64 b2, .int .u64 b3, .int .u64 b4]) (.int .i64 3)) u = .ok (.int .u64 b3) u := fun u => by simp [Instr.index, run_underlying Tryz.underlying189, asIntOf, go_sem]
 have ix4 : ∀ u, Sem.run Tryz.prog (Instr.index 189 (.agg #[.int .u64 b0, .int .u64 b1, .int .u64 b2, .int .u64 b3, .int .u64 b4]) (.int .i64 4)) u = .ok (.int .u64 b4) u := fun u => by simp [Instr.index, run_underlying Tryz.underlying189, asIntOf, go_sem]
 go_wp2_with fail
 refine wp_loop_rounds 6 ?_
 rw [rounds_succ]; go_wp2
 rw [rounds_succ]; go_wp2
 rw [rounds_succ]; go_wp2
 rw [rounds_succ]; go_wp2
 rw [rounds_succ]; go_wp2
 rw [rounds_succ]; go_wp2_with (first | simp only [hadd])
 go_quiet (fail)
 go_wp2
 go_ret2
 refine ⟨_, _, rfl, HF.out.1, HF.out.2.1, HF.out.2.2, ?_⟩
 exact belowN (((((HB.out.setCell (p := ⟨w.heap.size, 0, none⟩) (Nat.le_refl _) _).setCell (p := ⟨w.heap.size, 1, none⟩) (Nat.le_refl _) _).setCell (p := ⟨w.heap.size, 2, none⟩) (Nat.le_refl _) _).setCell (p := ⟨w.heap.size, 3, none⟩) (Nat.le_refl _) _).setCell (p := ⟨w.heap.size, 4, none⟩) (Nat.le_refl _) _) _
end Go.Proofs.YtlnbjehimabaiaaGreatDoor
