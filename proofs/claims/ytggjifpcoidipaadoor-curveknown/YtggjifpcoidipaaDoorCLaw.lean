/-
  Clamped scalars, and numbers told as bytes, for the laws of the curve. No Go text in it; no statement of the seat is proved here.
-/
import Derived.Test.YtggjifpcoidipaaDoorCShr
import Derived.Test.YtggjifpcoidipaaDoorCSec
import Derived.Test.YtggjifpcoidipaaDoorMLad
namespace Go.Proofs.YtggjifpcoidipaaDoor
open Go.RowKit

theorem thirty_two (l : List Int) (h : l.length = 32) : ∃ x m y, l = x :: (m ++ [y]) ∧ m.length = 30 := by
  match l, h with
  | x :: t, h =>
    have ht : t.length = 31 := by simpa using h
    refine ⟨x, t.take 30, t[30]'(by omega), ?_, by rw [List.length_take]; omega⟩
    have : t.drop 30 = [t[30]'(by omega)] := by
      rw [List.drop_eq_getElem_cons (by omega)]
      congr 1
      exact List.drop_eq_nil_of_le (by omega)
    rw [← this, List.take_append_drop]
theorem cl_form (x y : Int) (m : List Int) (hm : m.length = 30) : cl (x :: (m ++ [y])) = (x - x % 8) :: (m ++ [y % 64 + 64]) := by
  have h31 : (x :: (m ++ [y]))[31]! = y := by
    have : (x :: (m ++ [y]))[31]? = some y := by
      rw [List.getElem?_cons_succ, List.getElem?_append_right (by omega), hm]
      rfl
    rw [List.getElem!_eq_getElem?_getD, this]
    rfl
  unfold cl
  rw [h31, List.set_cons_zero, List.set_cons_succ, List.set_append_right _ _ (by omega), hm]
  rfl
theorem leN_form (x y : Int) (m : List Int) (hm : m.length = 30) : leN (x :: (m ++ [y])) = x + 256 * leN m + 452312848583266388373324160190187140051835877600158453279131187530910662656 * y := by
  rw [leN, leN_app, hm, show (256 : Int) ^ 30 = 1766847064778384329583297500742918515827483896875618958121606201292619776 from by decide]
  simp only [leN]
  omega
theorem cl_num {l : List Int} (h : By l) : ∃ n : Nat, leN (cl l) = n ∧ n < 2 ^ 255 ∧ n % 8 = 0 ∧ 2 ^ 254 ≤ n := by
  obtain ⟨x, m, y, rfl, hm⟩ := thirty_two l h.len
  have hx := h.byt x (by simp)
  have hy := h.byt y (by simp)
  have hb := leN_bound m (fun z hz => h.byt z (by simp [hz]))
  rw [hm, show (256 : Int) ^ 30 = 1766847064778384329583297500742918515827483896875618958121606201292619776 from by decide] at hb
  rw [cl_form _ _ _ hm, leN_form _ _ _ hm, show 2 ^ 255 = 57896044618658097711785492504343953926634992332820282019728792003956564819968 from by decide, show 2 ^ 254 = 28948022309329048855892746252171976963317496166410141009864396001978282409984 from by decide]
  generalize leN m = q at *
  refine ⟨(x - x % 8 + 256 * q + 452312848583266388373324160190187140051835877600158453279131187530910662656 * (y % 64 + 64)).toNat, ?_, ?_, ?_, ?_⟩ <;> omega
theorem cl_cl {l : List Int} (h : By l) : cl (cl l) = cl l := by
  obtain ⟨x, m, y, rfl, hm⟩ := thirty_two l h.len
  rw [cl_form _ _ _ hm, cl_form _ _ _ hm]
  congr 1
  · omega
  · congr 2
    omega
theorem xor128 : ∀ t : Fin 256, bits .xor .u8 ((t.val : Nat) : Int) 128 = (((t.val + 128) % 256 : Nat) : Int) := by decide +kernel
theorem num_turn (x y : Int) (m : List Int) (hm : m.length = 30) : num (x :: (m ++ [(y + 128) % 256])) = num (x :: (m ++ [y])) := by
  unfold num
  rw [leN_form _ _ _ hm, leN_form _ _ _ hm]
  congr 1
  omega
theorem num_laid (x : Int) (hx : El x) : num (lay 32 x) = x := by
  have h1 := hx.h0
  have h2 := hx.h1
  unfold num
  rw [leN_lay, Int.emod_eq_of_lt h1 (Int.lt_trans h2 (by decide)), Int.emod_eq_of_lt h1 (Int.lt_trans h2 (by decide)), hx.em]
theorem agree_l {a b : List Int} (ha : By a) (hb : By b) : xn (leN (cl a)) (num (lay 32 (xn (leN (cl b)) 9))) = xn (leN (cl b)) (num (lay 32 (xn (leN (cl a)) 9))) := by
  obtain ⟨m, em, m1, m2, _⟩ := cl_num ha
  obtain ⟨n, en, n1, n2, _⟩ := cl_num hb
  rw [em, en, num_laid _ (Ed.xn_el _ _), num_laid _ (Ed.xn_el _ _)]
  exact Ed.agree m n m1 n1 (by omega) (by omega)
theorem three_l {a b c : List Int} (ha : By a) (hb : By b) (hc : By c) :
    xn (leN (cl a)) (num (lay 32 (xn (leN (cl b)) (num (lay 32 (xn (leN (cl c)) 9)))))) = xn (leN (cl c)) (num (lay 32 (xn (leN (cl a)) (num (lay 32 (xn (leN (cl b)) 9)))))) ∧
    xn (leN (cl a)) (num (lay 32 (xn (leN (cl b)) (num (lay 32 (xn (leN (cl c)) 9)))))) = xn (leN (cl b)) (num (lay 32 (xn (leN (cl c)) (num (lay 32 (xn (leN (cl a)) 9)))))) := by
  obtain ⟨l, el, l1, l2, _⟩ := cl_num ha
  obtain ⟨m, em, m1, m2, _⟩ := cl_num hb
  obtain ⟨n, en, n1, n2, _⟩ := cl_num hc
  rw [el, em, en, num_laid _ (Ed.xn_el _ _), num_laid _ (Ed.xn_el _ _), num_laid _ (Ed.xn_el _ _), num_laid _ (Ed.xn_el _ _), num_laid _ (Ed.xn_el _ _), num_laid _ (Ed.xn_el _ _)]
  exact Ed.three l m n l1 m1 n1 (by omega) (by omega) (by omega)
theorem lay_nought : lay 32 0 = bz 0 := by decide
theorem x_one {a : List Int} (ha : By a) : lay 32 (xn (leN (cl a)) (num (bz 1))) = bz 0 := by
  obtain ⟨m, em, m1, m2, _⟩ := cl_num ha
  rw [em, num_bz 1 (by decide) (by decide), Ed.xn_one m m1 (by omega), lay_nought]
theorem x_nought {a : List Int} : lay 32 (xn (leN (cl a)) (num (bz 0))) = bz 0 := by
  rw [num_bz 0 (by decide) (by decide), Ed.xn_nought, lay_nought]
theorem x_zero_c (k : List Int) (hk : By k) (w : World) : Calls Tryd.prog 16 #[(.agg (List.map (Value.int .u8) k).toArray), (.agg (List.map (Value.int .u8) (bz 0)).toArray)] w fun e w' => e = .returned (.agg (List.map (Value.int .u8) (bz 0)).toArray) ∧ Below w.heap.size w w' := by
  refine (x_c k (bz 0) hk (bz_by 0 (by decide) (by decide)) w).mono ?_
  rintro e w' ⟨rfl, hb⟩
  exact ⟨by rw [x_nought], hb⟩
theorem shared_one_c (k : List Int) (hk : By k) (w : World) : Calls Tryd.prog 22 #[(.agg (List.map (Value.int .u8) k).toArray), (.agg (List.map (Value.int .u8) (bz 1)).toArray)] w fun e w' => e = .returned (.tuple #[(.agg (List.map (Value.int .u8) (bz 0)).toArray), .int .i64 10]) ∧ Below w.heap.size w w' := by
  refine (shared_c k (bz 1) hk (bz_by 1 (by decide) (by decide)) w).mono ?_
  rintro e w' ⟨h, hb⟩
  rcases h with ⟨-, rfl⟩ | ⟨hne, -⟩
  · exact ⟨rfl, hb⟩
  · exact absurd (x_one hk) hne
/-- X and Public, by letters. -/
theorem x_l (k l : List Int) (hk : By k) (hl : By l) (w : World) : Calls Tryd.prog 16 #[(.agg (List.map (Value.int .u8) k).toArray), (.agg (List.map (Value.int .u8) l).toArray)] w fun e w' => ∃ z, e = .returned (.agg (List.map (Value.int .u8) (lay 32 z)).toArray) ∧ El z ∧ Hid (z = xn (leN (cl k)) (num l)) ∧ Below w.heap.size w w' := by
  refine (x_c k l hk hl w).mono ?_
  rintro e w' ⟨rfl, hb⟩
  exact ⟨_, rfl, Ed.xn_el _ _, rfl, hb⟩
theorem public_l (k : List Int) (hk : By k) (w : World) : Calls Tryd.prog 19 #[(.agg (List.map (Value.int .u8) k).toArray)] w fun e w' => ∃ z, e = .returned (.agg (List.map (Value.int .u8) (lay 32 z)).toArray) ∧ El z ∧ Hid (z = xn (leN (cl k)) 9) ∧ Below w.heap.size w w' := by
  refine (public_c k hk w).mono ?_
  rintro e w' ⟨rfl, hb⟩
  exact ⟨_, rfl, Ed.xn_el _ _, rfl, hb⟩
theorem shared_l (k l : List Int) (hk : By k) (hl : By l) (w : World) : Calls Tryd.prog 22 #[(.agg (List.map (Value.int .u8) k).toArray), (.agg (List.map (Value.int .u8) l).toArray)] w fun e w' => ∃ z, El z ∧ Hid (z = xn (leN (cl k)) (num l)) ∧ ((z = 0 ∧ e = .returned (.tuple #[(.agg (List.map (Value.int .u8) (bz 0)).toArray), .int .i64 10])) ∨ (z ≠ 0 ∧ e = .returned (.tuple #[(.agg (List.map (Value.int .u8) (lay 32 z)).toArray), .int .i64 0]))) ∧ Below w.heap.size w w' := by
  refine (shared_c k l hk hl w).mono ?_
  rintro e w' ⟨h, hb⟩
  refine ⟨_, Ed.xn_el _ _, rfl, ?_, hb⟩
  have hel := Ed.xn_el (leN (cl k)) (num l)
  generalize xn (leN (cl k)) (num l) = z at *
  rcases h with ⟨h, he⟩ | ⟨h, he⟩
  · refine .inl ⟨?_, he⟩
    rw [← num_laid z hel, h, num_bz 0 (by decide) (by decide)]
  · refine .inr ⟨fun h0 => h ?_, he⟩
    rw [h0, lay_nought]
end Go.Proofs.YtggjifpcoidipaaDoor
