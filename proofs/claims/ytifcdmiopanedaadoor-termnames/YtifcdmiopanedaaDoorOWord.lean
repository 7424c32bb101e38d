/-
  What octet's Put32, Get32 and Xor, portholehand's Few and the reference's plain ones do: for whatever number and whatever bytes. No statement of the seat is proved here.
-/
import Derived.Test.YtifcdmiopanedaaDoorKBase
import Derived.Deep.AppendLies
namespace Go.Proofs.YtifcdmiopanedaaDoor
open Go.RowKit

theorem info5 : (Tryd.prog.info? 5).map (fun i => (i.zero, i.size, i.bytes)) = some (some (.int .u8 0), 1, 1) := by kernel_rfl
theorem lay4_eq (n : Int) (h0 : 0 ≤ n) (h1 : n < 4294967296) : lay 4 n = [n % 256, n / 256 % 256, n / 65536 % 256, n / 16777216] := by
  simp only [lay, List.cons.injEq, and_true]
  refine ⟨trivial, trivial, ?_, ?_⟩ <;> omega
theorem leN_take4 (l : List Int) (h : 4 ≤ l.length) : leN (l.take 4) = l[0]?.getD 0 + l[1]?.getD 0 * 256 + l[2]?.getD 0 * 65536 + l[3]?.getD 0 * 16777216 := by
  match l, h with
  | x0 :: x1 :: x2 :: x3 :: r, _ => simp [leN]; omega
theorem ors4 (x0 x1 x2 x3 : Int) (b0 : 0 ≤ x0 ∧ x0 ≤ 255) (b1 : 0 ≤ x1 ∧ x1 ≤ 255) (b2 : 0 ≤ x2 ∧ x2 ≤ 255) (b3 : 0 ≤ x3 ∧ x3 ≤ 255) :
    bits .or .u32 (bits .or .u32 (bits .or .u32 (bits .or .u32 0 x0) (x1 * 256)) (x2 * 65536)) (x3 * 16777216) = x0 + x1 * 256 + x2 * 65536 + x3 * 16777216 := by
  have e0 : bits .or .u32 0 x0 = x0 := by have := or32 0 x0 0 1 (by decide) (by omega) (by omega) (by omega) (by omega); simpa using this
  rw [e0, or32 x0 x1 8 256 (by decide) (by omega) (by omega) (by omega) (by omega), or32 _ x2 16 65536 (by decide) (by omega) (by omega) (by omega) (by omega), or32 _ x3 24 16777216 (by decide) (by omega) (by omega) (by omega) (by omega)]
theorem Rd.cut {w : World} {a : Option Addr} {len cap : Nat} {l : List Int} (h : Rd w a len cap l) (k : Nat) (hk : k ≤ len) : Rd w a k cap (l.take k) :=
  ⟨by rw [List.length_take, h.hlen]; omega, Nat.le_trans hk h.hle, h.hnil, h.byt.take k, fun h0 => by
    obtain ⟨b, off, ha, hc⟩ := h.cell (by omega)
    refine ⟨b, off, ha, fun i hi => ?_⟩
    rw [hc i (by omega), List.getElem?_take_of_lt hi]⟩
theorem xor8 (x y : Int) (hx : 0 ≤ x ∧ x ≤ 255) (hy : 0 ≤ y ∧ y ≤ 255) : 0 ≤ bits .xor .u8 x y ∧ bits .xor .u8 x y ≤ 255 ∧ (bits .xor .u8 x y = 0 ↔ x = y) := by
  rw [u8_xor x y (by omega) (by omega) (by omega) (by omega)]
  have h : x.toNat ^^^ y.toNat < 2 ^ 8 := Nat.xor_lt_two_pow (by omega) (by omega)
  refine ⟨by omega, by omega, ?_⟩
  constructor
  · intro h0
    have h1 : x.toNat ^^^ y.toNat = 0 := by omega
    have h2 : x.toNat = y.toNat := by
      have h3 : x.toNat ^^^ y.toNat ^^^ y.toNat = x.toNat := by rw [Nat.xor_assoc, Nat.xor_self, Nat.xor_zero]
      rw [h1, Nat.zero_xor] at h3
      exact h3.symm
    omega
  · rintro rfl
    simp
/-! ### Xor -/
/-- The exclusive or of two lists, as long as the shorter one. -/
def xorL (x y : List Int) : List Int := List.zipWith (bits .xor .u8) x y
theorem xorL_length (x y : List Int) : (xorL x y).length = min x.length y.length := by simp [xorL]
theorem xorL_byt {x y : List Int} (hx : Byt x) (hy : Byt y) : Byt (xorL x y) := by
  intro z hz
  obtain ⟨i, hi, rfl⟩ := List.mem_iff_getElem.1 hz
  rw [xorL_length] at hi
  simp only [xorL, List.getElem_zipWith]
  have := xor8 _ _ (hx _ (List.getElem_mem (show i < x.length by omega))) (hy _ (List.getElem_mem (show i < y.length by omega)))
  exact ⟨this.1, this.2.1⟩
theorem xorL_at {x y : List Int} {k : Nat} (hx : k < x.length) (hy : k < y.length) : (xorL x y)[k]? = some (bits .xor .u8 (x[k]?.getD 0) (y[k]?.getD 0)) := by
  rw [List.getElem?_eq_getElem (by rw [xorL_length]; omega)]
  simp [xorL, List.getElem?_eq_getElem hx, List.getElem?_eq_getElem hy]
/-- What the row holds when k bytes have been written: the first k of the answer, then noughts. -/
def half (z : List Int) (k : Nat) : List Int := z.take k ++ List.replicate (z.length - k) 0
theorem half_zero (z : List Int) : half z 0 = List.replicate z.length 0 := by simp [half]
theorem half_length (z : List Int) (k : Nat) (h : k ≤ z.length) : (half z k).length = z.length := by simp [half]; omega
theorem half_all (z : List Int) : half z z.length = z := by simp [half]
theorem half_set (z : List Int) (k : Nat) (h : k < z.length) (v : Int) (hv : z[k]? = some v) : (half z k).set k v = half z (k + 1) := by
  have e1 : (z.take k).length = k := by simp; omega
  have e2 : z.length - k = (z.length - (k + 1)) + 1 := by omega
  have e3 : z.take (k + 1) = z.take k ++ [v] := by
    rw [List.take_succ_eq_append_getElem h]
    rw [List.getElem?_eq_getElem h] at hv
    cases hv; rfl
  unfold half
  rw [e2, List.replicate_succ, e3, List.set_append_right _ _ (by omega), e1]
  simp

theorem half_map_set (z : List Int) (k : Nat) (h : k < z.length) (v : Int) (hv : z[k]? = some v) : ((half z k).map (Value.int .u8)).set k (.int .u8 v) = (half z (k + 1)).map (Value.int .u8) := by
  rw [← half_set z k h v hv, List.map_set]
theorem xor8_back (x y : Int) (hx : 0 ≤ x ∧ x ≤ 255) (hy : 0 ≤ y ∧ y ≤ 255) : bits .xor .u8 (bits .xor .u8 x y) y = x := by
  have h := xor8 x y hx hy
  rw [u8_xor _ y (by omega) (by omega) (by omega) (by omega), u8_xor x y (by omega) (by omega) (by omega) (by omega), Int.toNat_natCast, Nat.xor_assoc, Nat.xor_self, Nat.xor_zero]
  omega
/-- With the same once more it is the first again, as far as both go. -/
theorem xorL_back {a b : List Int} (ha : Byt a) (hb : Byt b) : xorL (xorL a b) b = a.take (min a.length b.length) := by
  induction a generalizing b with
  | nil => simp [xorL]
  | cons x a ih =>
    cases b with
    | nil => simp [xorL]
    | cons y b =>
      have e := ih (fun z hz => ha z (List.mem_cons_of_mem _ hz)) (fun z hz => hb z (List.mem_cons_of_mem _ hz))
      have e2 : min (x :: a).length (y :: b).length = min a.length b.length + 1 := by simp only [List.length_cons]; omega
      rw [e2, List.take_succ_cons, ← e]
      simp only [xorL, List.zipWith_cons_cons, List.cons.injEq, and_true]
      exact xor8_back x y (ha x (by simp)) (hb y (by simp))
theorem str_eq {a b : List Int} (ha : Byt a) (hb : Byt b) : ((strOfNums a).data.toList == (strOfNums b).data.toList) = decide (a = b) := by
  by_cases h : a = b
  · subst h; simp
  · have : strOfNums a ≠ strOfNums b := fun e => h (str_inj ha hb e)
    have e2 : (strOfNums a).data.toList ≠ (strOfNums b).data.toList := fun e => this (ByteArray.ext (by rw [← Array.toList_inj]; exact e))
    have e3 : decide (a = b) = false := by simp [h]
    rw [e3, beq_eq_false_iff_ne]
    exact e2
theorem str_eq' {a b : List Int} (ha : Byt a) (hb : Byt b) : ((strOfNums a).toList == (strOfNums b).toList) = decide (a = b) := by
  rw [← str_eq ha hb, ByteArray.toList_eq, ByteArray.toList_eq]
theorem xorL_take_succ {x y : List Int} {k : Nat} (hx : k < x.length) (hy : k < y.length) : ((xorL x y).take (k + 1)).map (Value.int .u8) = ((xorL x y).take k).map (Value.int .u8) ++ [.int .u8 (bits .xor .u8 (x[k]?.getD 0) (y[k]?.getD 0))] := by
  have h : k < (xorL x y).length := by rw [xorL_length]; omega
  have e := xorL_at hx hy
  rw [List.getElem?_eq_getElem h] at e
  rw [List.take_succ_eq_append_getElem h, List.map_append, Option.some.inj e]
  rfl
theorem cell_laid (w : World) (v : Value) (t : TypeId) : ∀ j u, [v][j]? = some u → (w.alloc (.cells #[v] t)).cell? ((⟨w.heap.size, 0, none⟩ : Addr).add j) = some u := by
  intro j u hj
  match j, hj with
  | 0, hj => simp at hj; subst hj; simp [Addr.add]
end Go.Proofs.YtifcdmiopanedaaDoor
