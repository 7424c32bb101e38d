/-
  Plain laws on tags: what hangs on r and on s. No statement of the seat is proved here.
-/
import Derived.Test.YtjmdgmbkkkoamaaPTag
import Derived.Test.YtjmdgmbkkkoamaaKOwn
import Derived.Test.YtjmdgmbkkkoamaaKEql
import Derived.Lib.SlBytesConst
namespace Go.Proofs.Ytjmdgmbkkkoamaa
open Go.RowKit

theorem eql16 (a b : List Int) (ha : Bn 16 a) (hab : a = b) (w : World) : Sem.run Try.prog (binOp .eql 53 (.agg (List.map (Value.int .u8) a).toArray) (.agg (List.map (Value.int .u8) b).toArray)) w = .ok (.bool true) w := by
  subst hab
  obtain ⟨xs, x1, x2⟩ := pbytes_of a ha.byt
  rw [x2, run_eql_bytes (P := Try.prog) w 53 5 16 Try.underlying53 Try.underlying5 (fun _ => by kernel_rfl) xs xs (x1.trans ha.len) (x1.trans ha.len)]
  simp
theorem eql12 (a b : List Int) (ha : Bn 12 a) (hab : a = b) (w : World) : Sem.run Try.prog (binOp .eql 41 (.agg (List.map (Value.int .u8) a).toArray) (.agg (List.map (Value.int .u8) b).toArray)) w = .ok (.bool true) w := by
  subst hab
  obtain ⟨xs, x1, x2⟩ := pbytes_of a ha.byt
  rw [x2, run_eql_bytes (P := Try.prog) w 41 5 12 Try.underlying41 Try.underlying5 (fun _ => by kernel_rfl) xs xs (x1.trans ha.len) (x1.trans ha.len)]
  simp
theorem lay_cong (X Y : Int) (h : X % 340282366920938463463374607431768211456 = Y % 340282366920938463463374607431768211456) : lay 16 X = lay 16 Y := by
  have e1 := lay_leN (lay 16 X) (lay_byt 16 X)
  have e2 := lay_leN (lay 16 Y) (lay_byt 16 Y)
  rw [lay_length, leN_lay] at e1 e2
  have e : (256 : Int) ^ 16 = 340282366920938463463374607431768211456 := by decide
  rw [e] at e1 e2
  rw [← e1, ← e2, h]
theorem leN_lay16 (X : Int) : leN (lay 16 X) = X % 340282366920938463463374607431768211456 := by
  rw [leN_lay]
  rfl
theorem lay_self (l : List Int) (h : Bn 16 l) : lay 16 (leN l) = l := by
  have := lay_leN l h.byt
  rwa [h.len] at this
/-- Two lists of bytes, added, from the lowest on. -/
def addL : List Int → List Int → Int → List Int
  | x :: xs, y :: ys, c => (c + x + y) % 256 :: addL xs ys ((c + x + y) / 256)
  | _, _, _ => []
theorem addL_lay : ∀ (x y : List Int) (c : Int), x.length = y.length → addL x y c = lay x.length (leN x + leN y + c)
  | [], [], _, _ => rfl
  | x :: xs, y :: ys, c, h => by
    rw [addL, addL_lay xs ys _ (by simpa using h), List.length_cons, lay, leN, leN]
    have e1 : (x + 256 * leN xs + (y + 256 * leN ys) + c) % 256 = (c + x + y) % 256 := by omega
    have e2 : (x + 256 * leN xs + (y + 256 * leN ys) + c) / 256 = leN xs + leN ys + (c + x + y) / 256 := by omega
    rw [e1, e2]
/-- One step of the sum: what is left. -/
theorem addL_drop (x y Z : List Int) (i : Nat) (c : Int) (hx : i < x.length) (hy : i < y.length) (h : addL (x.drop i) (y.drop i) c = Z.drop i) :
    ∃ z, Z[i]? = some z ∧ z = (c + x[i] + y[i]) % 256 ∧ addL (x.drop (i + 1)) (y.drop (i + 1)) ((c + x[i] + y[i]) / 256) = Z.drop (i + 1) := by
  rw [List.drop_eq_getElem_cons hx, List.drop_eq_getElem_cons hy, addL] at h
  have hz : i < Z.length := by
    apply Classical.byContradiction
    intro hn
    have e : Z.drop i = [] := List.drop_eq_nil_of_le (by omega)
    rw [e] at h
    cases h
  rw [List.drop_eq_getElem_cons hz] at h
  simp only [List.cons.injEq] at h
  exact ⟨Z[i], List.getElem?_eq_getElem hz, h.1.symm, h.2⟩
theorem half2_set (Z x : List Int) (i : Nat) (z : Int) (hz : Z[i]? = some z) (hx : i < x.length) : (Z.take i ++ x.drop i).set i z = Z.take (i + 1) ++ x.drop (i + 1) := by
  have hi : i < Z.length := (List.getElem?_eq_some_iff.1 hz).1
  have e1 : (Z.take i).length = i := by rw [List.length_take]; omega
  rw [List.set_append_right _ _ (by omega), e1, Nat.sub_self, List.drop_eq_getElem_cons hx, List.set_cons_zero, List.take_succ_eq_append_getElem hi]
  rw [List.getElem?_eq_getElem hi] at hz
  rw [← Option.some.inj hz, List.append_assoc]
  rfl
theorem half2_at (Z x : List Int) (i : Nat) (hi : i ≤ Z.length) (hx : i < x.length) : (Z.take i ++ x.drop i)[i]? = some x[i] := by
  have e1 : (Z.take i).length = i := by rw [List.length_take]; omega
  rw [List.getElem?_append_right (by omega), e1, Nat.sub_self, List.getElem?_drop, Nat.add_zero, List.getElem?_eq_getElem hx]
theorem bits_zero (m : Int) (h0 : 0 ≤ m) (h1 : m < 18446744073709551616) : bits .and .u64 0 m = 0 := by
  obtain ⟨k, rfl⟩ := Int.eq_ofNat_of_zero_le h0
  have := bits_and_u64_nat 0 k (by decide) (by omega)
  rw [Nat.zero_and] at this
  exact this
/-- r hangs on the key's first sixteen bytes alone. -/
theorem cl5_head (a b c : List Int) (ha : a.length = 16) : cl5 (a ++ b) = cl5 (a ++ c) := by
  unfold cl5
  rw [List.take_append_of_le_length (by omega), List.take_append_of_le_length (by omega), List.drop_append_of_le_length (by omega), List.drop_append_of_le_length (by omega), List.take_append_of_le_length (by rw [List.length_drop]; omega), List.take_append_of_le_length (by rw [List.length_drop]; omega)]
theorem po_zero : ∀ n t, po 0 n 0 t = 0
  | 0, _ => rfl
  | n + 1, t => by
    rw [po]
    split
    · rfl
    · rw [Int.mul_zero, Int.zero_emod]
      exact po_zero n _
theorem tg_zero (s text : List Int) (hs : Bn 16 s) : tg (List.replicate 16 0 ++ s) text = s := by
  unfold tg
  have e : cl5 (List.replicate 16 0 ++ s) = 0 := by
    rw [cl5_head _ s (List.replicate 16 0) (by simp)]
    decide +kernel
  rw [e, po_zero, Int.zero_add, List.drop_append_of_le_length (by simp), List.drop_eq_nil_of_le (by simp), List.nil_append, lay_self s hs]
/-- Another s. -/
theorem tg_shift (k m text : List Int) (hk : Bn 32 k) (hm : Bn 16 m) : tg (k.take 16 ++ addL (k.drop 16) m 0) text = addL (tg k text) m 0 := by
  have hl : (k.drop 16).length = 16 := by rw [List.length_drop, hk.len]
  have hl2 : (k.take 16).length = 16 := by rw [List.length_take, hk.len]; rfl
  have hT : (tg k text).length = 16 := by unfold tg; rw [lay_length]
  rw [addL_lay _ _ _ (by rw [hl, hm.len]), addL_lay _ _ _ (by rw [hT, hm.len]), hl, hT]
  have e : cl5 (k.take 16 ++ lay 16 (leN (k.drop 16) + leN m + 0)) = cl5 k := by
    rw [cl5_head _ _ (k.drop 16) hl2, List.take_append_drop]
  unfold tg
  rw [e, leN_lay16, List.drop_append_of_le_length (by omega), List.drop_eq_nil_of_le (by omega), List.nil_append, leN_lay16]
  exact lay_cong _ _ (by omega)
end Go.Proofs.Ytjmdgmbkkkoamaa
