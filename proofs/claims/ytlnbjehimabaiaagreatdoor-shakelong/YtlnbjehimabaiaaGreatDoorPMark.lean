/-
 What poly's marked does: the number of a block with a byte 1 behind it. Besides: copies into a part of an array. No statement of the seat is proved here.
-/
import Derived.Test.YtlnbjehimabaiaaGreatDoorPk1
import Derived.Test.YtlnbjehimabaiaaGreatDoorPk12
import Derived.Test.YtlnbjehimabaiaaGreatDoorPk3
namespace Go.Proofs.YtlnbjehimabaiaaGreatDoor
open Go.RowKit
set_option maxRecDepth 8000

theorem leN_app : ∀ (a b : List Int), leN (a ++ b) = leN a + 256 ^ a.length * leN b
 | [], b => by simp [leN]
 | x :: a, b => by
  rw [List.cons_append, leN, leN, leN_app a b, List.length_cons, Int.pow_succ, Int.mul_add, Int.mul_comm (256 ^ a.length) 256, Int.mul_assoc]
  omega
theorem leN_zero : ∀ n, leN (List.replicate n 0) = 0
 | 0 => rfl
 | n + 1 => by rw [List.replicate_succ, leN, leN_zero n]; rfl
/-- 24 bytes as three words. -/
theorem leN24 (B : List Int) (hl : B.length = 24) : leN B = leN (B.take 8) + leN ((B.drop 8).take 8) * 18446744073709551616 + leN ((B.drop 16).take 8) * 340282366920938463463374607431768211456 := by
 have e1 : B = B.take 8 ++ ((B.drop 8).take 8 ++ (B.drop 16).take 8) := by
  have : (B.drop 16).take 8 = B.drop 16 := List.take_of_length_le (by rw [List.length_drop]; omega)
  rw [this]
  have e2 : B.drop 16 = (B.drop 8).drop 8 := by rw [List.drop_drop]
  rw [e2, List.take_append_drop, List.take_append_drop]
 have l1 : (B.take 8).length = 8 := by rw [List.length_take]; omega
 have l2 : ((B.drop 8).take 8).length = 8 := by rw [List.length_take, List.length_drop]; omega
 have := leN_app (B.take 8) ((B.drop 8).take 8 ++ (B.drop 16).take 8)
 rw [← e1, leN_app, l1, l2] at this
 rw [this]
 show _ + 18446744073709551616 * (_ + 18446744073709551616 * _) = _
 omega
theorem pow256 (n : Nat) (h : n ≤ 16) : (0 : Int) < 256 ^ n ∧ (256 : Int) ^ n ≤ 340282366920938463463374607431768211456 := by
 have : ∀ k : Fin 17, (0 : Int) < 256 ^ k.val ∧ (256 : Int) ^ k.val ≤ 340282366920938463463374607431768211456 := by decide +kernel
 exact this ⟨n, by omega⟩
/-- A block with a byte 1 behind it, and noughts. -/
def mk24 (l : List Int) : List Int := l ++ (1 :: List.replicate (23 - l.length) 0)
theorem mk24_len (l : List Int) (h : l.length ≤ 16) : (mk24 l).length = 24 := by unfold mk24; simp; omega
theorem mk24_byt {l : List Int} (h : Byt l) : Byt (mk24 l) := h.app (Byt.cons (by decide) (by decide) (fun x hx => by rw [(List.mem_replicate.1 hx).2]; decide))
theorem mk24_num (l : List Int) : leN (mk24 l) = leN l + 256 ^ l.length := by
 unfold mk24
 rw [leN_app, leN, leN_zero]
 omega

set_option maxRecDepth 4000 in
set_option maxHeartbeats 2000000 in
theorem marked_c (bb off len cap : Nat) (l : List Int) (w : World) (hr : Rd w (some ⟨bb, off, none⟩) len cap l) (h1 : 1 ≤ len) (hm : len ≤ 16) :
  Calls Tryz.prog 154 #[.slice (some ⟨bb, off, none⟩) len cap] w fun e w' => ∃ m0 m1 m2 m3 m4, e = .returned (.agg #[.int .u64 m0, .int .u64 m1, .int .u64 m2, .int .u64 m3, .int .u64 m4]) ∧ (0 ≤ m0 ∧ m0 < 67108864) ∧ (0 ≤ m1 ∧ m1 < 67108864) ∧ (0 ≤ m2 ∧ m2 < 67108864) ∧ (0 ≤ m3 ∧ m3 < 67108864) ∧ (0 ≤ m4 ∧ m4 < 67108864) ∧ Hid (lv m0 m1 m2 m3 m4 = leN l + 256 ^ len) ∧ Below w.heap.size w w' := by
 have hll := hr.hlen
 have hbyt := hr.byt
 obtain ⟨B, HBd⟩ : ∃ B, Hid (B = mk24 l) := ⟨_, rfl⟩
 have hBl : B.length = 24 := by rw [HBd.out]; exact mk24_len l (by omega)
 have HY : Hid (Byt B) := by unfold Hid; rw [HBd.out]; exact mk24_byt hbyt
 have HN : Hid (leN B = leN l + 256 ^ len) := by unfold Hid; rw [HBd.out, mk24_num, hll]
 have HZ3 : Hid (∀ x y z : Int, x = leN ((B.drop 0).take 8) → y = leN ((B.drop 8).take 8) → z = leN ((B.drop 16).take 8) → x + y * 18446744073709551616 + z * 340282366920938463463374607431768211456 = leN l + 256 ^ len ∧ (0 ≤ z ∧ z ≤ 3)) := by
  intro x y z hx hy hz
  have e := leN24 B hBl
  rw [HN.out] at e
  rw [List.drop_zero] at hx
  have w1 := leN_w l hbyt
  rw [hll] at w1
  have w2 := pow256 len hm
  have w3 := (leN_w (B.take 8) (HY.out.take 8)).1
  have w4 := (leN_w ((B.drop 8).take 8) ((HY.out.drop 8).take 8)).1
  have w5 := (leN_w ((B.drop 16).take 8) ((HY.out.drop 16).take 8)).1
  rw [hx, hy, hz]
  omega
 have HR : Hid (Rd w (some ⟨bb, off, none⟩) len cap l) := hr
 have HBy : Hid (Byt l) := hbyt
 have HLL : Hid (l.length = len) := hll
 have HBL : Hid (B.length = 24) := hBl
 clear hr hbyt hll hBl HN
 have g1 : (len : Int) < 24 := by omega
 have g2 : (len : Int).toNat = len := by omega
 go_enter Tryz.func154, Tryz.ntmps154
 go_upto_region 2 with fail
 have A0 := (by have := ar_box (w.alloc (.cells #[.int .u64 0, .int .u64 0, .int .u64 0, .int .u64 0, .int .u64 0] 189)) (List.map (Value.int .u8) (List.replicate 24 0)) 24 rfl 209; simpa using this : Ar ((w.alloc (.cells #[.int .u64 0, .int .u64 0, .int .u64 0, .int .u64 0, .int .u64 0] 189)).alloc (.cells #[.int .u8 0, .int .u8 0, .int .u8 0, .int .u8 0, .int .u8 0, .int .u8 0, .int .u8 0, .int .u8 0, .int .u8 0, .int .u8 0, .int .u8 0, .int .u8 0, .int .u8 0, .int .u8 0, .int .u8 0, .int .u8 0, .int .u8 0, .int .u8 0, .int .u8 0, .int .u8 0, .int .u8 0, .int .u8 0, .int .u8 0, .int .u8 0] 209)) (w.heap.size + 1) 24 (List.map (Value.int .u8) (List.replicate 24 0)))
 have HA : Hid (Ar ((w.alloc (.cells #[.int .u64 0, .int .u64 0, .int .u64 0, .int .u64 0, .int .u64 0] 189)).alloc (.cells #[.int .u8 0, .int .u8 0, .int .u8 0, .int .u8 0, .int .u8 0, .int .u8 0, .int .u8 0, .int .u8 0, .int .u8 0, .int .u8 0, .int .u8 0, .int .u8 0, .int .u8 0, .int .u8 0, .int .u8 0, .int .u8 0, .int .u8 0, .int .u8 0, .int .u8 0, .int .u8 0, .int .u8 0, .int .u8 0, .int .u8 0, .int .u8 0] 209)) (w.heap.size + 1) 24 (List.map (Value.int .u8) (List.replicate 24 0))) := A0
 clear A0
 have zc0 : ((w.alloc (.cells #[.int .u64 0, .int .u64 0, .int .u64 0, .int .u64 0, .int .u64 0] 189)).alloc (.cells #[.int .u8 0, .int .u8 0, .int .u8 0, .int .u8 0, .int .u8 0, .int .u8 0, .int .u8 0, .int .u8 0, .int .u8 0, .int .u8 0, .int .u8 0, .int .u8 0, .int .u8 0, .int .u8 0, .int .u8 0, .int .u8 0, .int .u8 0, .int .u8 0, .int .u8 0, .int .u8 0, .int .u8 0, .int .u8 0, .int .u8 0, .int .u8 0] 209)).cell? ⟨w.heap.size, 0, none⟩ = some (.int .u64 0) := by simp [go_sem]
 have zf0 : ((w.alloc (.cells #[.int .u64 0, .int .u64 0, .int .u64 0, .int .u64 0, .int .u64 0] 189)).alloc (.cells #[.int .u8 0, .int .u8 0, .int .u8 0, .int .u8 0, .int .u8 0, .int .u8 0, .int .u8 0, .int .u8 0, .int .u8 0, .int .u8 0, .int .u8 0, .int .u8 0, .int .u8 0, .int .u8 0, .int .u8 0, .int .u8 0, .int .u8 0, .int .u8 0, .int .u8 0, .int .u8 0, .int .u8 0, .int .u8 0, .int .u8 0, .int .u8 0] 209)).frozen? ⟨w.heap.size, 0, none⟩ = false := by simp [go_sem]
 have zc1 : ((w.alloc (.cells #[.int .u64 0, .int .u64 0, .int .u64 0, .int .u64 0, .int .u64 0] 189)).alloc (.cells #[.int .u8 0, .int .u8 0, .int .u8 0, .int .u8 0, .int .u8 0, .int .u8 0, .int .u8 0, .int .u8 0, .int .u8 0, .int .u8 0, .int .u8 0, .int .u8 0, .int .u8 0, .int .u8 0, .int .u8 0, .int .u8 0, .int .u8 0, .int .u8 0, .int .u8 0, .int .u8 0, .int .u8 0, .int .u8 0, .int .u8 0, .int .u8 0] 209)).cell? ⟨w.heap.size, 1, none⟩ = some (.int .u64 0) := by simp [go_sem]
 have zf1 : ((w.alloc (.cells #[.int .u64 0, .int .u64 0, .int .u64 0, .int .u64 0, .int .u64 0] 189)).alloc (.cells #[.int .u8 0, .int .u8 0, .int .u8 0, .int .u8 0, .int .u8 0, .int .u8 0, .int .u8 0, .int .u8 0, .int .u8 0, .int .u8 0, .int .u8 0, .int .u8 0, .int .u8 0, .int .u8 0, .int .u8 0, .int .u8 0, .int .u8 0, .int .u8 0, .int .u8 0, .int .u8 0, .int .u8 0, .int .u8 0, .int .u8 0, .int .u8 0] 209)).frozen? ⟨w.heap.size, 1, none⟩ = false := by simp [go_sem]
 have zc2 : ((w.alloc (.cells #[.int .u64 0, .int .u64 0, .int .u64 0, .int .u64 0, .int .u64 0] 189)).alloc (.cells #[.int .u8 0, .int .u8 0, .int .u8 0, .int .u8 0, .int .u8 0, .int .u8 0, .int .u8 0, .int .u8 0, .int .u8 0, .int .u8 0, .int .u8 0, .int .u8 0, .int .u8 0, .int .u8 0, .int .u8 0, .int .u8 0, .int .u8 0, .int .u8 0, .int .u8 0, .int .u8 0, .int .u8 0, .int .u8 0, .int .u8 0, .int .u8 0] 209)).cell? ⟨w.heap.size, 2, none⟩ = some (.int .u64 0) := by simp [go_sem]
 have zf2 : ((w.alloc (.cells #[.int .u64 0, .int .u64 0, .int .u64 0, .int .u64 0, .int .u64 0] 189)).alloc (.cells #[.int .u8 0, .int .u8 0, .int .u8 0, .int .u8 0, .int .u8 0, .int .u8 0, .int .u8 0, .int .u8 0, .int .u8 0, .int .u8 0, .int .u8 0, .int .u8 0, .int .u8 0, .int .u8 0, .int .u8 0, .int .u8 0, .int .u8 0, .int .u8 0, .int .u8 0, .int .u8 0, .int .u8 0, .int .u8 0, .int .u8 0, .int .u8 0] 209)).frozen? ⟨w.heap.size, 2, none⟩ = false := by simp [go_sem]
 have zc3 : ((w.alloc (.cells #[.int .u64 0, .int .u64 0, .int .u64 0, .int .u64 0, .int .u64 0] 189)).alloc (.cells #[.int .u8 0, .int .u8 0, .int .u8 0, .int .u8 0, .int .u8 0, .int .u8 0, .int .u8 0, .int .u8 0, .int .u8 0, .int .u8 0, .int .u8 0, .int .u8 0, .int .u8 0, .int .u8 0, .int .u8 0, .int .u8 0, .int .u8 0, .int .u8 0, .int .u8 0, .int .u8 0, .int .u8 0, .int .u8 0, .int .u8 0, .int .u8 0] 209)).cell? ⟨w.heap.size, 3, none⟩ = some (.int .u64 0) := by simp [go_sem]
 have zf3 : ((w.alloc (.cells #[.int .u64 0, .int .u64 0, .int .u64 0, .int .u64 0, .int .u64 0] 189)).alloc (.cells #[.int .u8 0, .int .u8 0, .int .u8 0, .int .u8 0, .int .u8 0, .int .u8 0, .int .u8 0, .int .u8 0, .int .u8 0, .int .u8 0, .int .u8 0, .int .u8 0, .int .u8 0, .int .u8 0, .int .u8 0, .int .u8 0, .int .u8 0, .int .u8 0, .int .u8 0, .int .u8 0, .int .u8 0, .int .u8 0, .int .u8 0, .int .u8 0] 209)).frozen? ⟨w.heap.size, 3, none⟩ = false := by simp [go_sem]
 have zc4 : ((w.alloc (.cells #[.int .u64 0, .int .u64 0, .int .u64 0, .int .u64 0, .int .u64 0] 189)).alloc (.cells #[.int .u8 0, .int .u8 0, .int .u8 0, .int .u8 0, .int .u8 0, .int .u8 0, .int .u8 0, .int .u8 0, .int .u8 0, .int .u8 0, .int .u8 0, .int .u8 0, .int .u8 0, .int .u8 0, .int .u8 0, .int .u8 0, .int .u8 0, .int .u8 0, .int .u8 0, .int .u8 0, .int .u8 0, .int .u8 0, .int .u8 0, .int .u8 0] 209)).cell? ⟨w.heap.size, 4, none⟩ = some (.int .u64 0) := by simp [go_sem]
 have zf4 : ((w.alloc (.cells #[.int .u64 0, .int .u64 0, .int .u64 0, .int .u64 0, .int .u64 0] 189)).alloc (.cells #[.int .u8 0, .int .u8 0, .int .u8 0, .int .u8 0, .int .u8 0, .int .u8 0, .int .u8 0, .int .u8 0, .int .u8 0, .int .u8 0, .int .u8 0, .int .u8 0, .int .u8 0, .int .u8 0, .int .u8 0, .int .u8 0, .int .u8 0, .int .u8 0, .int .u8 0, .int .u8 0, .int .u8 0, .int .u8 0, .int .u8 0, .int .u8 0] 209)).frozen? ⟨w.heap.size, 4, none⟩ = false := by simp [go_sem]
 replace HR : Hid (Rd ((w.alloc (.cells #[.int .u64 0, .int .u64 0, .int .u64 0, .int .u64 0, .int .u64 0] 189)).alloc (.cells #[.int .u8 0, .int .u8 0, .int .u8 0, .int .u8 0, .int .u8 0, .int .u8 0, .int .u8 0, .int .u8 0, .int .u8 0, .int .u8 0, .int .u8 0, .int .u8 0, .int .u8 0, .int .u8 0, .int .u8 0, .int .u8 0, .int .u8 0, .int .u8 0, .int .u8 0, .int .u8 0, .int .u8 0, .int .u8 0, .int .u8 0, .int .u8 0] 209)) (some ⟨bb, off, none⟩) len cap l) := HR.out.below (bel2 _ _ _)
 have HB : Hid (Below w.heap.size w ((w.alloc (.cells #[.int .u64 0, .int .u64 0, .int .u64 0, .int .u64 0, .int .u64 0] 189)).alloc (.cells #[.int .u8 0, .int .u8 0, .int .u8 0, .int .u8 0, .int .u8 0, .int .u8 0, .int .u8 0, .int .u8 0, .int .u8 0, .int .u8 0, .int .u8 0, .int .u8 0, .int .u8 0, .int .u8 0, .int .u8 0, .int .u8 0, .int .u8 0, .int .u8 0, .int .u8 0, .int .u8 0, .int .u8 0, .int .u8 0, .int .u8 0, .int .u8 0] 209))) := bel2 _ _ _
 have hq2 : w.heap.size < ((w.alloc (.cells #[.int .u64 0, .int .u64 0, .int .u64 0, .int .u64 0, .int .u64 0] 189)).alloc (.cells #[.int .u8 0, .int .u8 0, .int .u8 0, .int .u8 0, .int .u8 0, .int .u8 0, .int .u8 0, .int .u8 0, .int .u8 0, .int .u8 0, .int .u8 0, .int .u8 0, .int .u8 0, .int .u8 0, .int .u8 0, .int .u8 0, .int .u8 0, .int .u8 0, .int .u8 0, .int .u8 0, .int .u8 0, .int .u8 0, .int .u8 0, .int .u8 0] 209)).heap.size := by simp; omega
 generalize ((w.alloc (.cells #[.int .u64 0, .int .u64 0, .int .u64 0, .int .u64 0, .int .u64 0] 189)).alloc (.cells #[.int .u8 0, .int .u8 0, .int .u8 0, .int .u8 0, .int .u8 0, .int .u8 0, .int .u8 0, .int .u8 0, .int .u8 0, .int .u8 0, .int .u8 0, .int .u8 0, .int .u8 0, .int .u8 0, .int .u8 0, .int .u8 0, .int .u8 0, .int .u8 0, .int .u8 0, .int .u8 0, .int .u8 0, .int .u8 0, .int .u8 0, .int .u8 0] 209)) = W1 at *
 have hq3 : w.heap.size < w.heap.size + 1 := by omega
 generalize w.heap.size + 1 = b3 at *
 generalize hq : w.heap.size = q2 at zc0 zc1 zc2 zc3 zc4 zf0 zf1 zf2 zf3 zf4 hq2 hq3 ⊢
 have hcp := fun ty => copy_c W1 b3 0 24 24 ⟨bb, off, none⟩ len cap l HR.out len (by omega) (there_part HA.out.all 0 len (by omega)) ty
 rw [List.take_of_length_le (by rw [HLL.out]; exact Nat.le_refl _)] at hcp
 have A1 : Hid (Ar (W1.setCells b3 0 (l.map (Value.int .u8))) b3 24 (List.map (Value.int .u8) (l ++ List.replicate (24 - len) 0))) := by
  have := HA.out.part 0 (l.map (Value.int .u8)) (by rw [List.length_map, HLL.out]; omega)
  rw [List.take_zero, List.nil_append, Nat.zero_add, List.length_map, HLL.out, ← List.map_drop, ← List.map_append, List.drop_replicate] at this
  exact this
 replace zc0 : (W1.setCells b3 0 (l.map (Value.int .u8))).cell? ⟨q2, 0, none⟩ = some (.int .u64 0) := (extB_setCells _ _ _ (ExtB.refl b3 W1)).cell (by omega) zc0
 replace zf0 : (W1.setCells b3 0 (l.map (Value.int .u8))).frozen? ⟨q2, 0, none⟩ = false := by rw [World.frozen?_of_block ((extB_setCells (l.map (Value.int .u8)) 0 W1 (ExtB.refl b3 W1)).block q2 hq2 (by omega))]; exact zf0
 replace zc1 : (W1.setCells b3 0 (l.map (Value.int .u8))).cell? ⟨q2, 1, none⟩ = some (.int .u64 0) := (extB_setCells _ _ _ (ExtB.refl b3 W1)).cell (by omega) zc1
 replace zf1 : (W1.setCells b3 0 (l.map (Value.int .u8))).frozen? ⟨q2, 1, none⟩ = false := by rw [World.frozen?_of_block ((extB_setCells (l.map (Value.int .u8)) 0 W1 (ExtB.refl b3 W1)).block q2 hq2 (by omega))]; exact zf1
 replace zc2 : (W1.setCells b3 0 (l.map (Value.int .u8))).cell? ⟨q2, 2, none⟩ = some (.int .u64 0) := (extB_setCells _ _ _ (ExtB.refl b3 W1)).cell (by omega) zc2
 replace zf2 : (W1.setCells b3 0 (l.map (Value.int .u8))).frozen? ⟨q2, 2, none⟩ = false := by rw [World.frozen?_of_block ((extB_setCells (l.map (Value.int .u8)) 0 W1 (ExtB.refl b3 W1)).block q2 hq2 (by omega))]; exact zf2
 replace zc3 : (W1.setCells b3 0 (l.map (Value.int .u8))).cell? ⟨q2, 3, none⟩ = some (.int .u64 0) := (extB_setCells _ _ _ (ExtB.refl b3 W1)).cell (by omega) zc3
 replace zf3 : (W1.setCells b3 0 (l.map (Value.int .u8))).frozen? ⟨q2, 3, none⟩ = false := by rw [World.frozen?_of_block ((extB_setCells (l.map (Value.int .u8)) 0 W1 (ExtB.refl b3 W1)).block q2 hq2 (by omega))]; exact zf3
 replace zc4 : (W1.setCells b3 0 (l.map (Value.int .u8))).cell? ⟨q2, 4, none⟩ = some (.int .u64 0) := (extB_setCells _ _ _ (ExtB.refl b3 W1)).cell (by omega) zc4
 replace zf4 : (W1.setCells b3 0 (l.map (Value.int .u8))).frozen? ⟨q2, 4, none⟩ = false := by rw [World.frozen?_of_block ((extB_setCells (l.map (Value.int .u8)) 0 W1 (ExtB.refl b3 W1)).block q2 hq2 (by omega))]; exact zf4
 replace HB : Hid (Below w.heap.size w (W1.setCells b3 0 (l.map (Value.int .u8)))) := below_setCells _ (by omega) _ _ _ HB.out
 replace hq2 : q2 < (W1.setCells b3 0 (l.map (Value.int .u8))).heap.size := Nat.lt_of_lt_of_le hq2 (extB_setCells _ _ _ (ExtB.refl b3 W1)).size
 clear HA HR
 go_upto_region 3 with fail
 clear hcp
 generalize W1.setCells b3 0 (l.map (Value.int .u8)) = W2 at *
 obtain ⟨c9, f9⟩ := A1.out.cell len (by omega)
 have c9' : ∃ v, W2.cell? ⟨b3, len, none⟩ = some v := ⟨_, c9⟩
 obtain ⟨v9, c9'⟩ := c9'
 clear c9
 go_upto_region 4 with fail
 have HA : Hid (Ar (W2.setCell ⟨b3, len, none⟩ (.int .u8 1)) b3 24 (List.map (Value.int .u8) B)) := by
  have := A1.out.set len (by omega) (.int .u8 1)
  rw [← List.map_set] at this
  have e : (l ++ List.replicate (24 - len) 0).set len 1 = B := by
   rw [HBd.out]; unfold mk24
   have h0 := HLL.out
   rw [List.set_append_right _ _ (by omega), h0, Nat.sub_self, show 24 - len = (23 - len) + 1 by omega, List.replicate_succ, List.set_cons_zero]
  rw [e] at this
  exact this
 replace zc0 : (W2.setCell ⟨b3, len, none⟩ (.int .u8 1)).cell? ⟨q2, 0, none⟩ = some (.int .u64 0) := ((ExtB.refl b3 W2).set len _).cell (by omega) zc0
 replace zf0 : (W2.setCell ⟨b3, len, none⟩ (.int .u8 1)).frozen? ⟨q2, 0, none⟩ = false := by rw [World.frozen?_of_block (((ExtB.refl b3 W2).set len (.int .u8 1)).block q2 hq2 (by omega))]; exact zf0
 replace zc1 : (W2.setCell ⟨b3, len, none⟩ (.int .u8 1)).cell? ⟨q2, 1, none⟩ = some (.int .u64 0) := ((ExtB.refl b3 W2).set len _).cell (by omega) zc1
 replace zf1 : (W2.setCell ⟨b3, len, none⟩ (.int .u8 1)).frozen? ⟨q2, 1, none⟩ = false := by rw [World.frozen?_of_block (((ExtB.refl b3 W2).set len (.int .u8 1)).block q2 hq2 (by omega))]; exact zf1
 replace zc2 : (W2.setCell ⟨b3, len, none⟩ (.int .u8 1)).cell? ⟨q2, 2, none⟩ = some (.int .u64 0) := ((ExtB.refl b3 W2).set len _).cell (by omega) zc2
 replace zf2 : (W2.setCell ⟨b3, len, none⟩ (.int .u8 1)).frozen? ⟨q2, 2, none⟩ = false := by rw [World.frozen?_of_block (((ExtB.refl b3 W2).set len (.int .u8 1)).block q2 hq2 (by omega))]; exact zf2
 replace zc3 : (W2.setCell ⟨b3, len, none⟩ (.int .u8 1)).cell? ⟨q2, 3, none⟩ = some (.int .u64 0) := ((ExtB.refl b3 W2).set len _).cell (by omega) zc3
 replace zf3 : (W2.setCell ⟨b3, len, none⟩ (.int .u8 1)).frozen? ⟨q2, 3, none⟩ = false := by rw [World.frozen?_of_block (((ExtB.refl b3 W2).set len (.int .u8 1)).block q2 hq2 (by omega))]; exact zf3
 replace zc4 : (W2.setCell ⟨b3, len, none⟩ (.int .u8 1)).cell? ⟨q2, 4, none⟩ = some (.int .u64 0) := ((ExtB.refl b3 W2).set len _).cell (by omega) zc4
 replace zf4 : (W2.setCell ⟨b3, len, none⟩ (.int .u8 1)).frozen? ⟨q2, 4, none⟩ = false := by rw [World.frozen?_of_block (((ExtB.refl b3 W2).set len (.int .u8 1)).block q2 hq2 (by omega))]; exact zf4
 replace HB : Hid (Below w.heap.size w (W2.setCell ⟨b3, len, none⟩ (.int .u8 1))) := HB.out.setCell (p := ⟨b3, len, none⟩) (by dsimp only; omega) _
 replace hq2 : q2 < (W2.setCell ⟨b3, len, none⟩ (.int .u8 1)).heap.size := by simpa using hq2
 clear A1 c9' f9
 generalize W2.setCell ⟨b3, len, none⟩ (.int .u8 1) = W at *
 refine wp_region_noPanic ?_
 refine wp_region_held_drew (S := ExtB q2 W) (by kernel_rfl) (ExtB.refl _ _).drew (fun hH => ?_)
 change wpAnyH _ _ _ _ _ _ #[false, false, false, false, false, false, false, false] _ _
 refine tn 0 ?_
 refine tn 2 ?_
 refine tn 4 ?_
 refine rdy 1 (fun K hK => ?_)
 go_simp
 refine (word_c (some ⟨b3, 0, none⟩) 24 24 (B.drop 0) _ (HA.out.drew.rdFrom HY.out 0 (by decide)) (by decide) (by decide)).mono ?_
 rintro e w' ⟨x, rfl, Hx, Wx, hw⟩
 rw [hw]
 clear hw w'
 refine ko hK hH fun hH => ?_; clear hK K
 refine rdy 3 (fun K hK => ?_)
 go_simp
 refine (word_c (some ⟨b3, 8, none⟩) 16 16 (B.drop 8) _ (HA.out.drew.rdFrom HY.out 8 (by decide)) (by decide) (by decide)).mono ?_
 rintro e w' ⟨y, rfl, Hy, Wy, hw⟩
 rw [hw]
 clear hw w'
 refine ko hK hH fun hH => ?_; clear hK K
 refine rdy 5 (fun K hK => ?_)
 go_simp
 refine (word_c (some ⟨b3, 16, none⟩) 8 8 (B.drop 16) _ (HA.out.drew.rdFrom HY.out 16 (by decide)) (by decide) (by decide)).mono ?_
 rintro e w' ⟨z, rfl, Hz, Wz, hw⟩
 rw [hw]
 clear hw w'
 refine ko hK hH fun hH => ?_; clear hK K
 refine rdy 6 (fun K hK => ?_)
 go_simp
 refine (parted_c x y z Wx Wy (HZ3.out x y z Hx.out Hy.out Hz.out).2 _).mono ?_
 rintro e V ⟨m0, m1, m2, m3, m4, rfl, g0, g1, g2, g3, g4, HV, hb⟩
 have HV' : Hid (lv m0 m1 m2 m3 m4 = leN l + 256 ^ len) := by have := HV.out; rw [(HZ3.out x y z Hx.out Hy.out Hz.out).1] at this; exact this
 refine ko hK (hH.trans hb) fun hH => ?_; clear hK K
 have cz0 : V.cell? ⟨q2, 0, none⟩ = some (.int .u64 0) := cell_later hb (by simpa [go_sem] using zc0)
 have cz1 : V.cell? ⟨q2, 1, none⟩ = some (.int .u64 0) := cell_later hb (by simpa [go_sem] using zc1)
 have cz2 : V.cell? ⟨q2, 2, none⟩ = some (.int .u64 0) := cell_later hb (by simpa [go_sem] using zc2)
 have cz3 : V.cell? ⟨q2, 3, none⟩ = some (.int .u64 0) := cell_later hb (by simpa [go_sem] using zc3)
 have cz4 : V.cell? ⟨q2, 4, none⟩ = some (.int .u64 0) := cell_later hb (by simpa [go_sem] using zc4)
 have fz0 : V.frozen? ⟨q2, 0, none⟩ = false := froz_later hb (by simpa using hq2) (by simpa [go_sem] using zf0)
 have fz1 : V.frozen? ⟨q2, 1, none⟩ = false := froz_later hb (by simpa using hq2) (by simpa [go_sem] using zf1)
 have fz2 : V.frozen? ⟨q2, 2, none⟩ = false := froz_later hb (by simpa using hq2) (by simpa [go_sem] using zf2)
 have fz3 : V.frozen? ⟨q2, 3, none⟩ = false := froz_later hb (by simpa using hq2) (by simpa [go_sem] using zf3)
 have fz4 : V.frozen? ⟨q2, 4, none⟩ = false := froz_later hb (by simpa using hq2) (by simpa [go_sem] using zf4)
 have HB2 : Hid (Below w.heap.size w V) := HB.out.drew.trans (hb.mono (by simpa using HB.out.size))
 clear hb HV HA HY HZ3 Hx Hy Hz
 refine rdy 7 (fun K hK => ?_)
 go_simp
 refine ko hK (((((hH.set 0 _).set 1 _).set 2 _).set 3 _).set 4 _) fun hH => ?_; clear hK K
 refine wpAnyH_done (by kernel_rfl) ?_ _
 refine NoPanic.normal ?_
 go_wp2
 refine bodyPost_ret (v := (.agg #[.int .u64 m0, .int .u64 m1, .int .u64 m2, .int .u64 m3, .int .u64 m4])) (by simp [results, Tryz.results154, go_sem, cz0, cz1, cz2, cz3, cz4]) rfl ⟨_, _, _, _, _, rfl, g0, g1, g2, g3, g4, HV', ?_⟩
 have hqle : w.heap.size ≤ q2 := by omega
 exact ((((HB2.out.setCell (p := ⟨q2, 0, none⟩) hqle _).setCell (p := ⟨q2, 1, none⟩) hqle _).setCell (p := ⟨q2, 2, none⟩) hqle _).setCell (p := ⟨q2, 3, none⟩) hqle _).setCell (p := ⟨q2, 4, none⟩) hqle _
end Go.Proofs.YtlnbjehimabaiaaGreatDoor
