/-
  What curve's bit does: a bit of the number of the bytes. No statement of the seat is proved here.
-/
import Derived.Test.YtggjifpcoidipaaDoorCBase
namespace Go.Proofs.YtggjifpcoidipaaDoor
open Go.RowKit

theorem and7 : ∀ t : Fin 256, bits .and .i64 ((t.val : Nat) : Int) 7 = ((t.val % 8 : Nat) : Int) := by decide +kernel
theorem leN_take (l : List Int) (hb : Byt l) (j : Nat) (h : j < l.length) : ∃ c, leN l = leN (l.take j) + 256 ^ j * (l[j] + 256 * c) ∧ 0 ≤ leN (l.take j) ∧ leN (l.take j) < 256 ^ j := by
  have e : l = l.take j ++ l[j] :: l.drop (j + 1) := by rw [← List.drop_eq_getElem_cons h, List.take_append_drop]
  have ht : (l.take j).length = j := by rw [List.length_take]; omega
  have hbt : Byt (l.take j) := fun x hx => hb x (List.mem_of_mem_take hx)
  have b := leN_bound _ hbt
  rw [ht] at b
  refine ⟨leN (l.drop (j + 1)), ?_, b.1, b.2⟩
  have e2 := leN_app (l.take j) (l[j] :: l.drop (j + 1))
  rw [← e, ht] at e2
  rw [e2, leN]
theorem bit_leN (l : List Int) (hb : Byt l) (t : Nat) (h : t / 8 < l.length) : leN l / 2 ^ t % 2 = l[t / 8] / 2 ^ (t % 8) % 2 := by
  obtain ⟨c, e, h0, h1⟩ := leN_take l hb (t / 8) h
  have hr := hb _ (List.getElem_mem h)
  generalize l[t / 8] = r at *
  have e1 : (2 : Int) ^ t = 256 ^ (t / 8) * 2 ^ (t % 8) := by
    rw [show (256 : Int) = 2 ^ 8 from rfl, ← Int.pow_mul, ← Int.pow_add]
    congr 1
    omega
  rw [e1, ← Int.ediv_ediv_of_nonneg (Int.le_of_lt (Int.pow_pos (by decide))), e, Int.add_mul_ediv_left _ _ (Int.ne_of_gt (Int.pow_pos (by decide))), Int.ediv_eq_zero_of_lt h0 h1, Int.zero_add]
  have h8 : t % 8 < 8 := Nat.mod_lt _ (by decide)
  generalize t % 8 = s at *
  have hs : s = 0 ∨ s = 1 ∨ s = 2 ∨ s = 3 ∨ s = 4 ∨ s = 5 ∨ s = 6 ∨ s = 7 := by omega
  rcases hs with rfl | rfl | rfl | rfl | rfl | rfl | rfl | rfl <;> simp only [Int.reducePow] <;> omega

set_option maxHeartbeats 1000000 in
theorem bit_c (l : List Int) (hl : By l) (t : Nat) (ht : t < 256) (w : World) :
    Calls Tryd.prog 37 #[(.agg (List.map (Value.int .u8) l).toArray), .int .i64 t] w fun e w' => e = .returned (.int .u64 (leN l / 2 ^ t % 2)) ∧ Below w.heap.size w w' := by
  have h1 : t / 8 < l.length := by rw [hl.len]; omega
  have HV : Hid (leN l / 2 ^ t % 2 = l[t / 8] / 2 ^ (t % 8) % 2) := bit_leN l hl.byt t h1
  have r1 := hl.byt _ (List.getElem_mem h1)
  have c1 : (w.alloc (.cells (List.map (Value.int .u8) l).toArray 22)).cell? ⟨w.heap.size, t / 8, none⟩ = some (.int .u8 l[t / 8]) := by
    have := (arr_box w l hl).rng (t / 8) (.int .u8 l[t / 8]) (by rw [List.getElem?_map, List.getElem?_eq_getElem h1]; rfl)
    rwa [Nat.zero_add] at this
  generalize l[t / 8] = r at *
  have h7 : bits .and .i64 (t : Int) 7 = ((t % 8 : Nat) : Int) := and7 ⟨t, ht⟩
  have h8 : t % 8 < 8 := Nat.mod_lt _ (by decide)
  generalize t % 8 = s at *
  have hd : 0 ≤ r / 2 ^ s ∧ r / 2 ^ s ≤ 255 := ⟨Int.ediv_nonneg r1.1 (Int.le_of_lt (Int.pow_pos (by decide))), Int.le_trans (Int.ediv_le_self _ r1.1) r1.2⟩
  have h2 : bits .and .u64 (r / 2 ^ s) 1 = r / 2 ^ s % 2 := and_one _ ⟨hd.1, by omega⟩
  have hw : IntKind.u64.wrap (r / 2 ^ s) = r / 2 ^ s := by
    rw [IntKind.wrap_u64]
    omega
  go_enter Tryd.func37, Tryd.ntmps37
  go_wp2
  go_ret
  refine ⟨?_, bel1 _ _⟩
  rw [HV.out]
  rfl
end Go.Proofs.YtggjifpcoidipaaDoor
