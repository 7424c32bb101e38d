/-
  Numbers as digits of 16 bits, the lowest first: plain laws for the reference of chapters 1 to 3. No Go text in it; no statement of the seat is proved here.
-/
import Derived.Test.YtggjifpcoidipaaDoorFLawM
namespace Go.Proofs.YtggjifpcoidipaaDoor
open Go.RowKit

/-- The number of digits; the digits of a number. -/
def nv : List Int → Int
  | [] => 0
  | d :: l => d + 65536 * nv l
def dg : Nat → Int → List Int
  | 0, _ => []
  | k + 1, n => n % 65536 :: dg k (n / 65536)
/-- Digits below 2^16; digits below 2^32. -/
def Dg (l : List Int) : Prop := ∀ x ∈ l, 0 ≤ x ∧ x < 65536
def Dw (l : List Int) : Prop := ∀ x ∈ l, 0 ≤ x ∧ x < 4294967296
theorem Dg.dw {l : List Int} (h : Dg l) : Dw l := fun x hx => by have := h x hx; omega
theorem Dg.cons {x : Int} {l : List Int} (h : Dg (x :: l)) : (0 ≤ x ∧ x < 65536) ∧ Dg l := ⟨h x (by simp), fun y hy => h y (by simp [hy])⟩
theorem Dg.mk {x : Int} {l : List Int} (h0 : 0 ≤ x) (h1 : x < 65536) (h : Dg l) : Dg (x :: l) := fun y hy => by
  rcases List.mem_cons.1 hy with rfl | hy
  · exact ⟨h0, h1⟩
  · exact h y hy
theorem Dg.app {a b : List Int} (ha : Dg a) (hb : Dg b) : Dg (a ++ b) := fun y hy => by
  rcases List.mem_append.1 hy with h | h
  · exact ha y h
  · exact hb y h
theorem Dg.nil : Dg [] := fun _ h => by cases h
theorem Dw.at {l : List Int} (h : Dw l) (i : Nat) (hi : i < l.length) : 0 ≤ l[i] ∧ l[i] < 4294967296 := h _ (List.getElem_mem hi)
theorem Dg.at {l : List Int} (h : Dg l) (i : Nat) (hi : i < l.length) : 0 ≤ l[i] ∧ l[i] < 65536 := h _ (List.getElem_mem hi)
theorem dg_length : ∀ (k : Nat) (n : Int), (dg k n).length = k
  | 0, _ => rfl
  | k + 1, n => by rw [dg, List.length_cons, dg_length k]
theorem dg_dg : ∀ (k : Nat) (n : Int), Dg (dg k n)
  | 0, _ => Dg.nil
  | k + 1, n => by rw [dg]; exact Dg.mk (by omega) (by omega) (dg_dg k _)
theorem nv_app : ∀ (a b : List Int), nv (a ++ b) = nv a + 65536 ^ a.length * nv b
  | [], b => by simp [nv]
  | x :: a, b => by
    rw [List.cons_append, nv, nv_app a b, nv, List.length_cons, Int.pow_succ, Int.mul_add, Int.add_assoc, Int.mul_comm (65536 ^ a.length) 65536, Int.mul_assoc]
theorem nv_bound : ∀ (l : List Int), Dg l → 0 ≤ nv l ∧ nv l < 65536 ^ l.length
  | [], _ => by simp [nv]
  | x :: l, h => by
    have ih := nv_bound l h.cons.2
    have hx := h.cons.1
    rw [nv, List.length_cons, Int.pow_succ]
    omega
theorem nv_wide : ∀ (l : List Int), Dw l → 0 ≤ nv l ∧ nv l ≤ 131072 * 65536 ^ l.length - 131072
  | [], _ => by simp [nv]
  | x :: l, h => by
    have ih := nv_wide l (fun y hy => h y (by simp [hy]))
    have hx := h x (by simp)
    rw [nv, List.length_cons, Int.pow_succ]
    omega
theorem dg_nv : ∀ (l : List Int), Dg l → dg l.length (nv l) = l
  | [], _ => rfl
  | x :: l, h => by
    have hx := h.cons.1
    rw [List.length_cons, dg, nv]
    have e1 : (x + 65536 * nv l) % 65536 = x := by omega
    have e2 : (x + 65536 * nv l) / 65536 = nv l := by omega
    rw [e1, e2, dg_nv l h.cons.2]
theorem nv_dg : ∀ (k : Nat) (n : Int), 0 ≤ n → n < 65536 ^ k → nv (dg k n) = n
  | 0, n, h0, h1 => by
    have : n = 0 := by simp at h1; omega
    rw [this]
    rfl
  | k + 1, n, h0, h1 => by
    rw [Int.pow_succ] at h1
    rw [dg, nv, nv_dg k (n / 65536) (by omega) (by omega)]
    omega
theorem dg_of {l : List Int} {n : Int} (h : Dg l) (hl : l.length = 16) (hn : nv l = n) : l = dg 16 n := by
  rw [← hn, ← hl, dg_nv l h]
/-- The prime's digits. -/
def pd : List Int := [65517, 65535, 65535, 65535, 65535, 65535, 65535, 65535, 65535, 65535, 65535, 65535, 65535, 65535, 65535, 32767]
theorem nv_pd : nv pd = 57896044618658097711785492504343953926634992332820282019728792003956564819949 := by decide
theorem pd_dg : Dg pd := by
  intro x hx
  have : x = 65517 ∨ x = 65535 ∨ x = 32767 := by simpa [pd] using hx
  omega
theorem pd_len : pd.length = 16 := rfl
theorem drop_cons {l : List Int} {i : Nat} (h : i < l.length) : l.drop i = l[i] :: l.drop (i + 1) := (List.getElem_cons_drop h).symm
/-- One step of a pass. -/
theorem pass_step (o D : List Int) (c : Int) (i : Nat) (hD : D.length = i) (hi : i < o.length) (h : nv D + 65536 ^ i * (c + nv (o.drop i)) = nv o) :
    nv (D ++ [(o[i] + c) % 65536]) + 65536 ^ (i + 1) * ((o[i] + c) / 65536 + nv (o.drop (i + 1))) = nv o := by
  rw [← h, drop_cons hi, nv_app, hD]
  simp only [nv]
  rw [Int.pow_succ, Int.mul_assoc, Int.add_assoc, ← Int.mul_add]
  congr 2
  omega
/-- One step of taking the prime off. -/
theorem take_step (o D : List Int) (b : Int) (i : Nat) (hD : D.length = i) (hi : i < o.length) (hp : i < pd.length) (h : nv D + 65536 ^ i * (nv (o.drop i) - nv (pd.drop i) - b) = nv o - nv pd) :
    nv (D ++ [(o[i] + 65536 - pd[i] - b) % 65536]) + 65536 ^ (i + 1) * (nv (o.drop (i + 1)) - nv (pd.drop (i + 1)) - (1 - (o[i] + 65536 - pd[i] - b) / 65536)) = nv o - nv pd := by
  rw [← h, drop_cons hi, drop_cons hp, nv_app, hD]
  simp only [nv]
  rw [Int.pow_succ, Int.mul_assoc, Int.add_assoc, ← Int.mul_add]
  congr 2
  omega
/-- The cells of words. -/
theorem set_mid (D R : List Int) (x y : Int) : (D ++ x :: R).set D.length y = D ++ y :: R := by simp
theorem range_set {w : World} {b i : Nat} {cs : List Value} (h : w.rangeAt b 0 cs) (hi : i < cs.length) (v : Value) : (w.setCell ⟨b, i, none⟩ v).rangeAt b 0 (cs.set i v) := fun j u hu => by
  rw [Nat.zero_add]
  by_cases hj : j = i
  · subst hj
    rw [List.getElem?_set_self hi] at hu
    have hc := h j _ (List.getElem?_eq_getElem hi)
    rw [Nat.zero_add] at hc
    rw [World.cell?_setCell_same _ _ _ hc]
    exact hu
  · rw [List.getElem?_set_ne (fun e => hj e.symm)] at hu
    have hc := h j _ hu
    rw [Nat.zero_add] at hc
    rw [World.cell?_setCell_other _ _ _ _ (by simp <;> omega), hc]
theorem words_oneCell (l : List Int) : ∀ u ∈ l.map (Value.int .u64), u.oneCell' = true := ints_oneCell _ _
theorem mask16 (a : Int) (h0 : 0 ≤ a) (h1 : a < 18446744073709551616) : bits .and .u64 a 65535 = a % 65536 := by
  obtain ⟨a, rfl⟩ := Int.eq_ofNat_of_zero_le h0
  have h := bits_and_u64_nat a 65535 (by omega) (by omega)
  have e : a &&& 65535 = a % 65536 := Nat.and_two_pow_sub_one_eq_mod a 16
  rw [e] at h
  rw [Int.natCast_emod] at h
  exact h
/-- A variable that holds words: a Number. -/
structure Wrd (u : World) (b : Nat) (l : List Int) : Prop where
  rng : u.rangeAt b 0 (l.map (Value.int .u64))
  all : u.there b 0 16
theorem Wrd.later {u u' : World} {b : Nat} {l : List Int} (h : Wrd u b l) (hb : Below u.heap.size u u') : Wrd u' b l := ⟨range_later hb h.rng, there_later hb h.all⟩
theorem Wrd.lt {u : World} {b : Nat} {l : List Int} (h : Wrd u b l) : b < u.heap.size := there_lt h.all (by decide)
theorem Wrd.set {u : World} {b : Nat} {l : List Int} (h : Wrd u b l) (i : Nat) (hi : i < l.length) (x : Int) : Wrd (u.setCell ⟨b, i, none⟩ (.int .u64 x)) b (l.set i x) :=
  ⟨by rw [List.map_set]; exact range_set h.rng (by rw [List.length_map]; exact hi) _, there_set h.all _ _ _⟩
theorem Wrd.other {u : World} {b c : Nat} {l : List Int} (h : Wrd u b l) (hne : b ≠ c) (i : Nat) (v : Value) : Wrd (u.setCell ⟨c, i, none⟩ v) b l := ⟨range_else h.rng hne _, there_set h.all _ _ _⟩
theorem Wrd.cell {u : World} {b : Nat} {l : List Int} (h : Wrd u b l) (i : Nat) (hi : i < l.length) (h16 : l.length = 16) : u.cell? ⟨b, i, none⟩ = some (.int .u64 l[i]) ∧ u.frozen? ⟨b, i, none⟩ = false := by
  have := h.rng i (.int .u64 l[i]) (by rw [List.getElem?_map, List.getElem?_eq_getElem hi]; rfl)
  rw [Nat.zero_add] at this
  obtain ⟨_, _, hf⟩ := there_cell h.all i (by omega)
  exact ⟨this, hf⟩
theorem Wrd.drew {u : World} {b : Nat} {l : List Int} (h : Wrd u b l) : Wrd u.drew b l := h.later (Below.refl _ _).drew
theorem wrd_box (u : World) (l : List Int) (hl : l.length = 16) (t : TypeId) : Wrd (u.alloc (.cells (l.map (Value.int .u64)).toArray t)) u.heap.size l :=
  ⟨fun j v hv => by rw [Nat.zero_add, cell_of_row _ _ _ _ _ _ (heap_alloc_new u _)]; simpa using hv, there_new u 16 _ (by rw [List.size_toArray, List.length_map, hl]) _⟩
theorem wrd_store {u : World} {b : Nat} (h : u.there b 0 16) (l : List Int) (hl : l.length = 16) : Wrd (u.setCells b 0 (l.map (Value.int .u64))) b l :=
  ⟨World.rangeAt_setCells_same _ _ _ _ (by rw [List.length_map, hl]; exact h), World.there_setCells h _ _ _⟩
theorem no_cells {l : List Int} (h : l.length = 16) : (l.map (Value.int .u64)).length = 16 ∧ (∀ v ∈ l.map (Value.int .u64), v.oneCell' = true) ∧ (Tryd.prog.info? 31).map (·.size) = some (l.map (Value.int .u64)).length := by
  have e : (l.map (Value.int .u64)).length = 16 := by rw [List.length_map, h]
  exact ⟨e, words_oneCell _, by rw [e]; kernel_rfl⟩
end Go.Proofs.YtggjifpcoidipaaDoor
