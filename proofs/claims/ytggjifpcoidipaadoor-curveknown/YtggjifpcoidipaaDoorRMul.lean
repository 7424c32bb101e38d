/-
  What the reference's Mul does, for whatever digits. No statement of the seat is proved here.
-/
import Derived.Test.YtggjifpcoidipaaDoorRBytes
namespace Go.Proofs.YtggjifpcoidipaaDoor
open Go.RowKit

/-- A variable that holds n words. -/
structure Wn (n : Nat) (u : World) (b : Nat) (l : List Int) : Prop where
  rng : u.rangeAt b 0 (List.map (Value.int .u64) l)
  all : u.there b 0 n
theorem Wn.later {n : Nat} {u u' : World} {b : Nat} {l : List Int} (h : Wn n u b l) (hb : Below u.heap.size u u') : Wn n u' b l := ⟨range_later hb h.rng, there_later hb h.all⟩
theorem Wn.drew {n : Nat} {u : World} {b : Nat} {l : List Int} (h : Wn n u b l) : Wn n u.drew b l := h.later (Below.refl _ _).drew
theorem Wn.set {n : Nat} {u : World} {b : Nat} {l : List Int} (h : Wn n u b l) (i : Nat) (hi : i < l.length) (x : Int) : Wn n (u.setCell ⟨b, i, none⟩ (.int .u64 x)) b (l.set i x) :=
  ⟨by rw [List.map_set]; exact range_set h.rng (by rw [List.length_map]; exact hi) _, there_set h.all _ _ _⟩
theorem Wn.other {n : Nat} {u : World} {b c : Nat} {l : List Int} (h : Wn n u b l) (hne : b ≠ c) (i : Nat) (v : Value) : Wn n (u.setCell ⟨c, i, none⟩ v) b l := ⟨range_else h.rng hne _, there_set h.all _ _ _⟩
theorem Wn.cell {n : Nat} {u : World} {b : Nat} {l : List Int} (h : Wn n u b l) (i : Nat) (hi : i < l.length) (hn : l.length = n) : u.cell? ⟨b, i, none⟩ = some (.int .u64 l[i]) ∧ u.frozen? ⟨b, i, none⟩ = false := by
  have := h.rng i (.int .u64 l[i]) (by rw [List.getElem?_map, List.getElem?_eq_getElem hi]; rfl)
  rw [Nat.zero_add] at this
  obtain ⟨_, _, hf⟩ := there_cell h.all i (by omega)
  exact ⟨this, hf⟩
theorem nv_set : ∀ (l : List Int) (m : Nat) (hm : m < l.length) (d : Int), nv (l.set m (l[m] + d)) = nv l + 65536 ^ m * d
  | x :: l, 0, _, d => by
    simp only [List.set_cons_zero, List.getElem_cons_zero, nv, Int.pow_zero, Int.one_mul]
    omega
  | x :: l, m + 1, h, d => by
    simp only [List.set_cons_succ, List.getElem_cons_succ, nv]
    rw [nv_set l m (by simpa using h) d, Int.pow_succ, Int.mul_add, Int.mul_comm (65536 ^ m) 65536, Int.mul_assoc]
    omega
theorem nv_take (l : List Int) (k : Nat) (h : k < l.length) : nv (l.take (k + 1)) = nv (l.take k) + 65536 ^ k * l[k] := by
  rw [take_snoc l k h, nv_app, List.length_take, Nat.min_eq_left (by omega)]
  simp [nv]
/-- All words at most so much. -/
def Le (m : Int) (l : List Int) : Prop := ∀ x ∈ l, 0 ≤ x ∧ x ≤ m
theorem Le.set {m d : Int} {l : List Int} (h : Le m l) (i : Nat) (hi : i < l.length) (h0 : 0 ≤ d) (h1 : d ≤ 4294836225) : Le (m + 4294836225) (l.set i (l[i] + d)) := fun x hx => by
  rcases List.mem_or_eq_of_mem_set hx with h2 | h2
  · have := h x h2
    omega
  · have := h _ (List.getElem_mem hi)
    omega
theorem Le.at {m : Int} {l : List Int} (h : Le m l) (i : Nat) (hi : i < l.length) : 0 ≤ l[i] ∧ l[i] ≤ m := h _ (List.getElem_mem hi)
theorem mul_step (A b r q : Int) (i k : Nat) (T : Int) (bt : Int) (h : T = A * b + 65536 ^ i * (r * bt)) : T + 65536 ^ (i + k) * (r * q) = A * b + 65536 ^ i * (r * (bt + 65536 ^ k * q)) := by
  rw [h, Int.pow_add, Int.mul_add, Int.mul_add, Int.add_assoc]
  congr 1
  congr 1
  rw [Int.mul_assoc, Int.mul_left_comm r (65536 ^ k) q]
theorem prod16 (r q : Int) (r0 : 0 ≤ r) (r1 : r < 65536) (q0 : 0 ≤ q) (q1 : q < 65536) : 0 ≤ r * q ∧ r * q ≤ 4294836225 :=
  ⟨Int.mul_nonneg r0 q0, Int.mul_le_mul (c := 65535) (d := 65535) (by omega) (by omega) q0 (by decide)⟩

theorem two_set' (U R : List Int) (a b x y : Int) (i : Nat) (h : U.length = i) : ((U ++ a :: b :: R).set (i + 1) y).set i x = (U ++ [x]) ++ y :: R := by
  rw [List.set_comm _ _ (by omega), two_set U R a b x y i h]
  simp
def mz (F : List Int) : List Int := List.zipWith (fun x y => x + 38 * y) (F.take 16) (F.drop 16)
theorem mz_len {F : List Int} (h : F.length = 32) : (mz F).length = 16 := by
  rw [mz, List.length_zipWith, List.length_take, List.length_drop, h]
  rfl
theorem nv_zip38 : ∀ (a b : List Int), a.length = b.length → nv (List.zipWith (fun x y => x + 38 * y) a b) = nv a + 38 * nv b
  | [], [], _ => rfl
  | x :: a, y :: b, h => by
    have ih := nv_zip38 a b (by simpa using h)
    rw [List.zipWith_cons_cons, nv, nv, nv, ih]
    omega
  | [], _ :: _, h => by simp at h
  | _ :: _, [], h => by simp at h
theorem mz_at {F : List Int} (j : Nat) (h1 : j < F.length) (h2 : j + 16 < F.length) (h3 : j < (mz F).length) : (mz F)[j] = F[j] + 38 * F[j + 16] := by
  simp [mz, Nat.add_comm]
theorem mz_nv {F : List Int} (h : F.length = 32) : nv (mz F) % 57896044618658097711785492504343953926634992332820282019728792003956564819949 = nv F % 57896044618658097711785492504343953926634992332820282019728792003956564819949 := by
  have e := nv_app (F.take 16) (F.drop 16)
  rw [List.take_append_drop, List.length_take, Nat.min_eq_left (by omega), show (65536 : Int) ^ 16 = 115792089237316195423570985008687907853269984665640564039457584007913129639936 from by decide] at e
  rw [mz, nv_zip38 _ _ (by rw [List.length_take, List.length_drop]; omega), e]
  have : nv (F.take 16) + 115792089237316195423570985008687907853269984665640564039457584007913129639936 * nv (F.drop 16) = nv (F.take 16) + 38 * nv (F.drop 16) + 57896044618658097711785492504343953926634992332820282019728792003956564819949 * (2 * nv (F.drop 16)) := by omega
  rw [this, Int.add_mul_emod_self_left]
theorem mz_dw {F : List Int} (h : F.length = 32) (hd : Dg F) : Dw (mz F) := by
  intro x hx
  obtain ⟨i, hi, rfl⟩ := List.getElem_of_mem hx
  have hl := mz_len h
  rw [mz_at i (by omega) (by omega) hi]
  have := hd.at i (by omega)
  have := hd.at (i + 16) (by omega)
  omega
theorem carry_step (o D : List Int) (c : Int) (i : Nat) (hD : D.length = i) (hi : i + 1 < o.length) (h : nv D + 65536 ^ i * (c + 65536 * nv (o.drop (i + 1))) = nv o) :
    nv (D ++ [c % 65536]) + 65536 ^ (i + 1) * (o[i + 1] + c / 65536 + 65536 * nv (o.drop (i + 1 + 1))) = nv o := by
  rw [← h, drop_cons hi, nv_app, hD]
  simp only [nv]
  rw [Int.pow_succ, Int.mul_assoc, Int.add_assoc, ← Int.mul_add]
  congr 2
  omega

set_option maxHeartbeats 8000000 in
theorem rmul_any (a b : List Int) (ha : a.length = 16) (hb : b.length = 16) (da : Dg a) (db : Dg b) (w : World) (hg : Gp w) :
    Calls Tryd.prog 13 #[.agg (List.map (Value.int .u64) a).toArray, .agg (List.map (Value.int .u64) b).toArray] w fun e w' => ∃ z, e = .returned (.agg (List.map (Value.int .u64) z).toArray) ∧ Hid (z = dg 16 (nv a * nv b % 57896044618658097711785492504343953926634992332820282019728792003956564819949)) ∧ Below w.heap.size w w' := by
  go_enter Tryd.func13, Tryd.ntmps13
  go_wp2
  have HL : Hid (Wrd ((((w.alloc (.cells (List.map (Value.int .u64) a).toArray 31)).alloc (.cells (List.map (Value.int .u64) b).toArray 31)).alloc (.cells #[.int .u64 0, .int .u64 0, .int .u64 0, .int .u64 0, .int .u64 0, .int .u64 0, .int .u64 0, .int .u64 0, .int .u64 0, .int .u64 0, .int .u64 0, .int .u64 0, .int .u64 0, .int .u64 0, .int .u64 0, .int .u64 0] 31)).alloc (.cells #[.int .u64 0, .int .u64 0, .int .u64 0, .int .u64 0, .int .u64 0, .int .u64 0, .int .u64 0, .int .u64 0, .int .u64 0, .int .u64 0, .int .u64 0, .int .u64 0, .int .u64 0, .int .u64 0, .int .u64 0, .int .u64 0, .int .u64 0, .int .u64 0, .int .u64 0, .int .u64 0, .int .u64 0, .int .u64 0, .int .u64 0, .int .u64 0, .int .u64 0, .int .u64 0, .int .u64 0, .int .u64 0, .int .u64 0, .int .u64 0, .int .u64 0, .int .u64 0] 60)) (w.heap.size) a) := (((wrd_box w a ha _).later (bel1 _ (.cells (List.map (Value.int .u64) b).toArray 31))).later (bel1 _ (.cells #[.int .u64 0, .int .u64 0, .int .u64 0, .int .u64 0, .int .u64 0, .int .u64 0, .int .u64 0, .int .u64 0, .int .u64 0, .int .u64 0, .int .u64 0, .int .u64 0, .int .u64 0, .int .u64 0, .int .u64 0, .int .u64 0] 31))).later (bel1 _ (.cells #[.int .u64 0, .int .u64 0, .int .u64 0, .int .u64 0, .int .u64 0, .int .u64 0, .int .u64 0, .int .u64 0, .int .u64 0, .int .u64 0, .int .u64 0, .int .u64 0, .int .u64 0, .int .u64 0, .int .u64 0, .int .u64 0, .int .u64 0, .int .u64 0, .int .u64 0, .int .u64 0, .int .u64 0, .int .u64 0, .int .u64 0, .int .u64 0, .int .u64 0, .int .u64 0, .int .u64 0, .int .u64 0, .int .u64 0, .int .u64 0, .int .u64 0, .int .u64 0] 60))
  have HK : Hid (Wrd ((((w.alloc (.cells (List.map (Value.int .u64) a).toArray 31)).alloc (.cells (List.map (Value.int .u64) b).toArray 31)).alloc (.cells #[.int .u64 0, .int .u64 0, .int .u64 0, .int .u64 0, .int .u64 0, .int .u64 0, .int .u64 0, .int .u64 0, .int .u64 0, .int .u64 0, .int .u64 0, .int .u64 0, .int .u64 0, .int .u64 0, .int .u64 0, .int .u64 0] 31)).alloc (.cells #[.int .u64 0, .int .u64 0, .int .u64 0, .int .u64 0, .int .u64 0, .int .u64 0, .int .u64 0, .int .u64 0, .int .u64 0, .int .u64 0, .int .u64 0, .int .u64 0, .int .u64 0, .int .u64 0, .int .u64 0, .int .u64 0, .int .u64 0, .int .u64 0, .int .u64 0, .int .u64 0, .int .u64 0, .int .u64 0, .int .u64 0, .int .u64 0, .int .u64 0, .int .u64 0, .int .u64 0, .int .u64 0, .int .u64 0, .int .u64 0, .int .u64 0, .int .u64 0] 60)) (w.heap.size + 1) b) := by have := ((wrd_box (w.alloc (.cells (List.map (Value.int .u64) a).toArray 31)) b hb 31).later (bel1 _ (.cells #[.int .u64 0, .int .u64 0, .int .u64 0, .int .u64 0, .int .u64 0, .int .u64 0, .int .u64 0, .int .u64 0, .int .u64 0, .int .u64 0, .int .u64 0, .int .u64 0, .int .u64 0, .int .u64 0, .int .u64 0, .int .u64 0] 31))).later (bel1 _ (.cells #[.int .u64 0, .int .u64 0, .int .u64 0, .int .u64 0, .int .u64 0, .int .u64 0, .int .u64 0, .int .u64 0, .int .u64 0, .int .u64 0, .int .u64 0, .int .u64 0, .int .u64 0, .int .u64 0, .int .u64 0, .int .u64 0, .int .u64 0, .int .u64 0, .int .u64 0, .int .u64 0, .int .u64 0, .int .u64 0, .int .u64 0, .int .u64 0, .int .u64 0, .int .u64 0, .int .u64 0, .int .u64 0, .int .u64 0, .int .u64 0, .int .u64 0, .int .u64 0] 60)); simpa [Hid] using this
  have HD : Hid (((((w.alloc (.cells (List.map (Value.int .u64) a).toArray 31)).alloc (.cells (List.map (Value.int .u64) b).toArray 31)).alloc (.cells #[.int .u64 0, .int .u64 0, .int .u64 0, .int .u64 0, .int .u64 0, .int .u64 0, .int .u64 0, .int .u64 0, .int .u64 0, .int .u64 0, .int .u64 0, .int .u64 0, .int .u64 0, .int .u64 0, .int .u64 0, .int .u64 0] 31)).alloc (.cells #[.int .u64 0, .int .u64 0, .int .u64 0, .int .u64 0, .int .u64 0, .int .u64 0, .int .u64 0, .int .u64 0, .int .u64 0, .int .u64 0, .int .u64 0, .int .u64 0, .int .u64 0, .int .u64 0, .int .u64 0, .int .u64 0, .int .u64 0, .int .u64 0, .int .u64 0, .int .u64 0, .int .u64 0, .int .u64 0, .int .u64 0, .int .u64 0, .int .u64 0, .int .u64 0, .int .u64 0, .int .u64 0, .int .u64 0, .int .u64 0, .int .u64 0, .int .u64 0] 60)).there (w.heap.size + 1 + 1) 0 16) := by have := there_later (bel1 _ (.cells #[.int .u64 0, .int .u64 0, .int .u64 0, .int .u64 0, .int .u64 0, .int .u64 0, .int .u64 0, .int .u64 0, .int .u64 0, .int .u64 0, .int .u64 0, .int .u64 0, .int .u64 0, .int .u64 0, .int .u64 0, .int .u64 0, .int .u64 0, .int .u64 0, .int .u64 0, .int .u64 0, .int .u64 0, .int .u64 0, .int .u64 0, .int .u64 0, .int .u64 0, .int .u64 0, .int .u64 0, .int .u64 0, .int .u64 0, .int .u64 0, .int .u64 0, .int .u64 0] 60)) (there_new ((w.alloc (.cells (List.map (Value.int .u64) a).toArray 31)).alloc (.cells (List.map (Value.int .u64) b).toArray 31)) 16 #[.int .u64 0, .int .u64 0, .int .u64 0, .int .u64 0, .int .u64 0, .int .u64 0, .int .u64 0, .int .u64 0, .int .u64 0, .int .u64 0, .int .u64 0, .int .u64 0, .int .u64 0, .int .u64 0, .int .u64 0, .int .u64 0] rfl 31); simpa [Hid] using this
  have HT : Hid (Wn 32 ((((w.alloc (.cells (List.map (Value.int .u64) a).toArray 31)).alloc (.cells (List.map (Value.int .u64) b).toArray 31)).alloc (.cells #[.int .u64 0, .int .u64 0, .int .u64 0, .int .u64 0, .int .u64 0, .int .u64 0, .int .u64 0, .int .u64 0, .int .u64 0, .int .u64 0, .int .u64 0, .int .u64 0, .int .u64 0, .int .u64 0, .int .u64 0, .int .u64 0] 31)).alloc (.cells #[.int .u64 0, .int .u64 0, .int .u64 0, .int .u64 0, .int .u64 0, .int .u64 0, .int .u64 0, .int .u64 0, .int .u64 0, .int .u64 0, .int .u64 0, .int .u64 0, .int .u64 0, .int .u64 0, .int .u64 0, .int .u64 0, .int .u64 0, .int .u64 0, .int .u64 0, .int .u64 0, .int .u64 0, .int .u64 0, .int .u64 0, .int .u64 0, .int .u64 0, .int .u64 0, .int .u64 0, .int .u64 0, .int .u64 0, .int .u64 0, .int .u64 0, .int .u64 0] 60)) (w.heap.size + 1 + 1 + 1) (List.replicate 32 0)) := by
    have h1 := there_new (((w.alloc (.cells (List.map (Value.int .u64) a).toArray 31)).alloc (.cells (List.map (Value.int .u64) b).toArray 31)).alloc (.cells #[.int .u64 0, .int .u64 0, .int .u64 0, .int .u64 0, .int .u64 0, .int .u64 0, .int .u64 0, .int .u64 0, .int .u64 0, .int .u64 0, .int .u64 0, .int .u64 0, .int .u64 0, .int .u64 0, .int .u64 0, .int .u64 0] 31)) 32 #[.int .u64 0, .int .u64 0, .int .u64 0, .int .u64 0, .int .u64 0, .int .u64 0, .int .u64 0, .int .u64 0, .int .u64 0, .int .u64 0, .int .u64 0, .int .u64 0, .int .u64 0, .int .u64 0, .int .u64 0, .int .u64 0, .int .u64 0, .int .u64 0, .int .u64 0, .int .u64 0, .int .u64 0, .int .u64 0, .int .u64 0, .int .u64 0, .int .u64 0, .int .u64 0, .int .u64 0, .int .u64 0, .int .u64 0, .int .u64 0, .int .u64 0, .int .u64 0] rfl 60
    have h2 : ((((w.alloc (.cells (List.map (Value.int .u64) a).toArray 31)).alloc (.cells (List.map (Value.int .u64) b).toArray 31)).alloc (.cells #[.int .u64 0, .int .u64 0, .int .u64 0, .int .u64 0, .int .u64 0, .int .u64 0, .int .u64 0, .int .u64 0, .int .u64 0, .int .u64 0, .int .u64 0, .int .u64 0, .int .u64 0, .int .u64 0, .int .u64 0, .int .u64 0] 31)).alloc (.cells #[.int .u64 0, .int .u64 0, .int .u64 0, .int .u64 0, .int .u64 0, .int .u64 0, .int .u64 0, .int .u64 0, .int .u64 0, .int .u64 0, .int .u64 0, .int .u64 0, .int .u64 0, .int .u64 0, .int .u64 0, .int .u64 0, .int .u64 0, .int .u64 0, .int .u64 0, .int .u64 0, .int .u64 0, .int .u64 0, .int .u64 0, .int .u64 0, .int .u64 0, .int .u64 0, .int .u64 0, .int .u64 0, .int .u64 0, .int .u64 0, .int .u64 0, .int .u64 0] 60)).rangeAt (((w.alloc (.cells (List.map (Value.int .u64) a).toArray 31)).alloc (.cells (List.map (Value.int .u64) b).toArray 31)).alloc (.cells #[.int .u64 0, .int .u64 0, .int .u64 0, .int .u64 0, .int .u64 0, .int .u64 0, .int .u64 0, .int .u64 0, .int .u64 0, .int .u64 0, .int .u64 0, .int .u64 0, .int .u64 0, .int .u64 0, .int .u64 0, .int .u64 0] 31)).heap.size 0 (List.map (Value.int .u64) (List.replicate 32 (0 : Int))) := fun j v hv => by rw [Nat.zero_add, cell_of_row _ _ _ _ _ _ (heap_alloc_new _ _)]; simpa using hv
    have := Wn.mk h2 h1
    simpa [Hid] using this
  have HG : Hid (Gp ((((w.alloc (.cells (List.map (Value.int .u64) a).toArray 31)).alloc (.cells (List.map (Value.int .u64) b).toArray 31)).alloc (.cells #[.int .u64 0, .int .u64 0, .int .u64 0, .int .u64 0, .int .u64 0, .int .u64 0, .int .u64 0, .int .u64 0, .int .u64 0, .int .u64 0, .int .u64 0, .int .u64 0, .int .u64 0, .int .u64 0, .int .u64 0, .int .u64 0] 31)).alloc (.cells #[.int .u64 0, .int .u64 0, .int .u64 0, .int .u64 0, .int .u64 0, .int .u64 0, .int .u64 0, .int .u64 0, .int .u64 0, .int .u64 0, .int .u64 0, .int .u64 0, .int .u64 0, .int .u64 0, .int .u64 0, .int .u64 0, .int .u64 0, .int .u64 0, .int .u64 0, .int .u64 0, .int .u64 0, .int .u64 0, .int .u64 0, .int .u64 0, .int .u64 0, .int .u64 0, .int .u64 0, .int .u64 0, .int .u64 0, .int .u64 0, .int .u64 0, .int .u64 0] 60))) := (((hg.later (bel1 _ _)).later (bel1 _ _)).later (bel1 _ _)).later (bel1 _ _)
  have HB : Hid (Below w.heap.size w ((((w.alloc (.cells (List.map (Value.int .u64) a).toArray 31)).alloc (.cells (List.map (Value.int .u64) b).toArray 31)).alloc (.cells #[.int .u64 0, .int .u64 0, .int .u64 0, .int .u64 0, .int .u64 0, .int .u64 0, .int .u64 0, .int .u64 0, .int .u64 0, .int .u64 0, .int .u64 0, .int .u64 0, .int .u64 0, .int .u64 0, .int .u64 0, .int .u64 0] 31)).alloc (.cells #[.int .u64 0, .int .u64 0, .int .u64 0, .int .u64 0, .int .u64 0, .int .u64 0, .int .u64 0, .int .u64 0, .int .u64 0, .int .u64 0, .int .u64 0, .int .u64 0, .int .u64 0, .int .u64 0, .int .u64 0, .int .u64 0, .int .u64 0, .int .u64 0, .int .u64 0, .int .u64 0, .int .u64 0, .int .u64 0, .int .u64 0, .int .u64 0, .int .u64 0, .int .u64 0, .int .u64 0, .int .u64 0, .int .u64 0, .int .u64 0, .int .u64 0, .int .u64 0] 60))) := bel4 _ _ _ _ _
  have hpos : 0 < w.heap.size := hg.pos
  generalize (((w.alloc (.cells (List.map (Value.int .u64) a).toArray 31)).alloc (.cells (List.map (Value.int .u64) b).toArray 31)).alloc (.cells #[.int .u64 0, .int .u64 0, .int .u64 0, .int .u64 0, .int .u64 0, .int .u64 0, .int .u64 0, .int .u64 0, .int .u64 0, .int .u64 0, .int .u64 0, .int .u64 0, .int .u64 0, .int .u64 0, .int .u64 0, .int .u64 0] 31)).alloc (.cells #[.int .u64 0, .int .u64 0, .int .u64 0, .int .u64 0, .int .u64 0, .int .u64 0, .int .u64 0, .int .u64 0, .int .u64 0, .int .u64 0, .int .u64 0, .int .u64 0, .int .u64 0, .int .u64 0, .int .u64 0, .int .u64 0, .int .u64 0, .int .u64 0, .int .u64 0, .int .u64 0, .int .u64 0, .int .u64 0, .int .u64 0, .int .u64 0, .int .u64 0, .int .u64 0, .int .u64 0, .int .u64 0, .int .u64 0, .int .u64 0, .int .u64 0, .int .u64 0] 60) = W0 at *
  have k1 : w.heap.size < w.heap.size + 1 := by omega
  have k2 : w.heap.size + 1 < w.heap.size + 1 + 1 := by omega
  have k3 : w.heap.size + 1 + 1 < w.heap.size + 1 + 1 + 1 := by omega
  generalize w.heap.size + 1 + 1 + 1 = b3 at *
  generalize w.heap.size + 1 + 1 = b2 at *
  generalize w.heap.size + 1 = b1 at *
  go_loopw [6] (fun i wl => ∃ (j : Nat) (T : List Int), j ≤ 16 ∧ i = .int .i64 j ∧ T.length = 32 ∧ Hid (Le (16 * (j : Int) * 4294836225) T) ∧ Hid (nv T = nv (a.take j) * nv b) ∧ Hid (Wn 32 wl b3 T) ∧ Hid (Wrd wl (w.heap.size) a) ∧ Hid (Wrd wl b1 b) ∧ Hid (wl.there b2 0 16) ∧ Hid (Gp wl) ∧ Hid (Below w.heap.size w wl)) (fun i _ => 16 - (intOf i).toNat)
  case atStart => exact ⟨0, List.replicate 32 0, by decide, rfl, rfl, fun x hx => by rw [(List.mem_replicate.1 hx).2]; decide, by unfold Hid; rw [List.take_zero, nv, Int.zero_mul]; decide, HT, HL, HK, HD, HG, HB⟩
  case round =>
    clear HL HK HT HD HG HB
    obtain ⟨j, T, hj, rfl, hTl, HLe, HV, HT, HL, HK, HD, HG, HB⟩ := hrel
    by_cases hlt : j < 16
    · have h1 : j < a.length := by omega
      have ra := da.at j h1
      have c1 := (HL.out.cell j h1 ha).1
      have HS : Hid (nv (a.take (j + 1)) = nv (a.take j) + 65536 ^ j * a[j]) := nv_take a j h1
      clear c1
      have g1 : (j : Int) < 16 := by omega
      go_wp2
      go_loopw [7] (fun i wl => ∃ (k : Nat) (T : List Int), k ≤ 16 ∧ i = .int .i64 k ∧ T.length = 32 ∧ Hid (Le ((16 * (j : Int) + k) * 4294836225) T) ∧ Hid (nv T = nv (a.take j) * nv b + 65536 ^ j * (a[j] * nv (b.take k))) ∧ Hid (Wn 32 wl b3 T) ∧ Hid (Wrd wl (w.heap.size) a) ∧ Hid (Wrd wl b1 b) ∧ Hid (wl.there b2 0 16) ∧ Hid (Gp wl) ∧ Hid (Below w.heap.size w wl)) (fun i _ => 16 - (intOf i).toNat)
      case atStart => exact ⟨0, T, by decide, rfl, hTl, by simpa [Hid] using HLe, by unfold Hid; rw [HV.out, List.take_zero, nv, Int.mul_zero, Int.mul_zero, Int.add_zero], HT, HL, HK, HD, HG, HB⟩
      case round =>
        clear HL HK HT HD HG HB HLe HV
        obtain ⟨k, S, hk, rfl, hSl, HLe, HV, HT, HL, HK, HD, HG, HB⟩ := hrel
        by_cases hlt2 : k < 16
        · have h2 : k < b.length := by omega
          have h3 : j + k < S.length := by omega
          have rb := db.at k h2
          have rt := HLe.out.at (j + k) h3
          have rp := prod16 a[j] b[k] ra.1 ra.2 rb.1 rb.2
          have c1 := (HL.out.cell j h1 ha).1
          have c2 := (HK.out.cell k h2 hb).1
          obtain ⟨c3, f3⟩ := HT.out.cell (j + k) h3 hSl
          have HS2 : Hid (nv (b.take (k + 1)) = nv (b.take k) + 65536 ^ k * b[k]) := nv_take b k h2
          have HN : Hid (nv (S.set (j + k) (S[j + k] + a[j] * b[k])) = nv (a.take j) * nv b + 65536 ^ j * (a[j] * nv (b.take (k + 1)))) := by
            unfold Hid
            rw [nv_set S (j + k) h3, HS2.out]
            exact mul_step _ _ _ _ _ _ _ _ HV.out
          have HLe2 : Hid (Le ((16 * (j : Int) + k) * 4294836225 + 4294836225) (S.set (j + k) (S[j + k] + a[j] * b[k]))) := HLe.out.set (j + k) h3 rp.1 rp.2
          have HT2 : Hid (Wn 32 (wr.drew.setCell ⟨b3, j + k, none⟩ (.int .u64 (S[j + k] + a[j] * b[k]))) b3 (S.set (j + k) (S[j + k] + a[j] * b[k]))) := HT.out.drew.set (j + k) h3 _
          have hsl2 : (S.set (j + k) (S[j + k] + a[j] * b[k])).length = 32 := by rw [List.length_set]; exact hSl
          generalize S.set (j + k) (S[j + k] + a[j] * b[k]) = S' at *
          generalize hm : a[j] * b[k] = m at *
          generalize a[j] = r at *
          generalize b[k] = q at *
          generalize S[j + k] = tv at *
          obtain ⟨t0, t1⟩ := rt
          obtain ⟨m0, m1⟩ := rp
          have t2 : tv ≤ 1099511627776 := by
            have : (16 * (j : Int) + k) * 4294836225 ≤ 256 * 4294836225 := by omega
            omega
          have g2 : (k : Int) < 16 := by omega
          have g3 : (j : Int) + k < 32 := by omega
          go_wp2
          go_region
          all_goals
            go_wp2
            go_roundw
            case rel => exact ⟨k + 1, S', by omega, by go_num, hsl2, by
              have := HLe2.out
              unfold Hid
              rw [show ((16 * (j : Int) + ((k + 1 : Nat) : Int)) * 4294836225) = (16 * (j : Int) + k) * 4294836225 + 4294836225 by omega]
              exact this, HN, HT2, HL.out.drew.other (by omega) _ _, HK.out.drew.other (by omega) _ _, there_set (there_later (Below.refl _ _).drew HD.out) _ _ _, (HG.out.later (Below.refl _ _).drew).set _ (by dsimp only; omega) _, HB.out.drew.setCell (p := ⟨b3, j + k, none⟩) (by dsimp only; omega) _⟩
            case measure => simp [intOf]; omega
        · have e : k = 16 := by omega
          subst e
          have HV2 : Hid (nv S = nv (a.take (j + 1)) * nv b) := by
            unfold Hid
            rw [HV.out, HS.out, List.take_of_length_le (by omega : b.length ≤ 16), Int.add_mul, Int.mul_assoc]
          go_wp2
          go_roundw
          case rel => exact ⟨j + 1, S, by omega, by go_num, hSl, by
            have := HLe.out
            unfold Hid
            rw [show (16 * ((j + 1 : Nat) : Int) * 4294836225) = (16 * (j : Int) + ((16 : Nat) : Int)) * 4294836225 by omega]
            exact this, HV2, HT, HL, HK, HD, HG, HB⟩
          case measure => simp [intOf]; omega
    · have e : j = 16 := by omega
      subst e
      have HV2 : Hid (nv T = nv a * nv b) := by unfold Hid; rw [HV.out, List.take_of_length_le (by omega)]
      clear HV
      have HLe' : Hid (∀ x ∈ T, 0 ≤ x ∧ x ≤ 1099511627776) := fun x hx => by
        have := HLe.out x hx
        omega
      clear HLe
      go_wp2
      go_loopw [8] (fun i wl => ∃ (j : Nat) (D : List Int) (c : Int), j ≤ 31 ∧ i = .int .i64 j ∧ D.length = j ∧ 0 ≤ c ∧ c ≤ 2199023255552 ∧ Hid (Dg D) ∧ Hid (nv D + 65536 ^ j * (c + 65536 * nv (T.drop (j + 1))) = nv T) ∧ Hid (Wn 32 wl b3 (D ++ c :: T.drop (j + 1))) ∧ Hid (wl.there b2 0 16) ∧ Hid (Gp wl) ∧ Hid (Below w.heap.size w wl)) (fun i _ => 31 - (intOf i).toNat)
      case atStart =>
        have h0 : 0 < T.length := by omega
        have e0 : T = T[0] :: T.drop 1 := by
          have := drop_cons h0
          rw [List.drop_zero] at this
          exact this
        have hb0 := HLe'.out _ (List.getElem_mem h0)
        exact ⟨0, [], T[0], by decide, rfl, rfl, hb0.1, by omega, Dg.nil, by
          unfold Hid
          have : nv T = T[0] + 65536 * nv (T.drop 1) := by
            have := congrArg nv e0
            rwa [nv] at this
          rw [nv, Int.pow_zero, Int.one_mul, Int.zero_add]
          exact this.symm, by
          unfold Hid
          rw [List.nil_append, ← e0]
          exact HT.out, HD, HG, HB⟩
      case round =>
        clear HL HK HT HD HG HB
        obtain ⟨j, D, c, hj, rfl, hDl, c0, c1, HDg, HE, HT, HD, HG, HB⟩ := hrel
        by_cases hlt2 : j < 31
        · have h1 : j + 1 < T.length := by omega
          have HS := carry_step T D c j hDl h1 HE.out
          have HS' : Hid (nv (D ++ [c % 65536]) + 65536 ^ (j + 1) * (T[j + 1] + c / 65536 + 65536 * nv (T.drop (j + 1 + 1))) = nv T) := HS
          have rs := HLe'.out _ (List.getElem_mem h1)
          have HT' : Hid (Wn 32 wr b3 (D ++ c :: T[j + 1] :: T.drop (j + 1 + 1))) := by unfold Hid; rw [← drop_cons h1]; exact HT.out
          have hlen : (D ++ c :: T[j + 1] :: T.drop (j + 1 + 1)).length = 32 := by simp only [List.length_append, List.length_cons, List.length_drop]; omega
          clear HS HT
          generalize T[j + 1] = sv at *
          subst hDl
          obtain ⟨s0, s1⟩ := rs
          have q1 : D.length < (D ++ c :: sv :: T.drop (D.length + 1 + 1)).length := by omega
          have q2 : D.length + 1 < (D ++ c :: sv :: T.drop (D.length + 1 + 1)).length := by omega
          obtain ⟨x1, y1⟩ := HT'.out.cell _ q1 hlen
          obtain ⟨x2, y2⟩ := HT'.out.cell _ q2 hlen
          rw [show (D ++ c :: sv :: T.drop (D.length + 1 + 1))[D.length] = c by simp] at x1
          rw [show (D ++ c :: sv :: T.drop (D.length + 1 + 1))[D.length + 1] = sv by simp] at x2
          have hm := mask16 c c0 (by omega)
          have hc0 : 0 ≤ c / 65536 := by omega
          have hc1 : c / 65536 ≤ 33554432 := by omega
          generalize hq : c % 65536 = q at *
          have HQ : Hid (c % 65536 = q) := hq
          clear hq
          have g2 : (D.length : Int) < 31 := by omega
          go_wp2
          go_region
          all_goals
            go_wp2
            go_roundw
            case rel => exact ⟨D.length + 1, D ++ [q], sv + c / 65536, by omega, by go_num, by simp, by omega, by omega, HDg.out.app (Dg.mk (by have := HQ.out; omega) (by have := HQ.out; omega) Dg.nil), HS', by
              have := (HT'.out.drew.set (D.length + 1) q2 (sv + c / 65536)).set D.length (by rw [List.length_set]; exact q1) q
              rw [two_set' _ _ _ _ _ _ _ rfl] at this
              exact this, there_set (there_set (there_later (Below.refl _ _).drew HD.out) _ _ _) _ _ _, ((HG.out.later (Below.refl _ _).drew).set _ (by dsimp only; omega) _).set _ (by dsimp only; omega) _, (HB.out.drew.setCell (p := ⟨b3, D.length + 1, none⟩) (by dsimp only; omega) _).setCell (p := ⟨b3, D.length, none⟩) (by dsimp only; omega) _⟩
            case measure => simp [intOf]; omega
        · have e : j = 31 := by omega
          subst e
          have z : T.drop (31 + 1) = [] := List.drop_eq_nil_of_le (by omega)
          have HNV : Hid (nv (D ++ [c]) = nv a * nv b ∧ c < 65536) := by
            have h := HE.out
            rw [z, nv, Int.mul_zero, Int.add_zero, HV2.out] at h
            have e1 : nv (D ++ [c]) = nv a * nv b := by
              rw [nv_app, hDl, ← h]
              simp [nv]
            refine ⟨e1, ?_⟩
            have n1 := nv_bound a da
            have n2 := nv_bound b db
            have n3 := nv_bound D HDg.out
            rw [ha] at n1
            rw [hb] at n2
            have hm : nv a * nv b ≤ (65536 ^ 16 - 1) * (65536 ^ 16 - 1) := Int.mul_le_mul (by omega) (by omega) n2.1 (by decide)
            rw [← h] at hm
            have p31 : (65536 : Int) ^ 31 = 204586912993508866875824356051724947013540127877691549342705710506008362275292159680204380770369009821930417757972504438076078534117837065833032974336 := by decide
            have p16 : ((65536 : Int) ^ 16 - 1) * (65536 ^ 16 - 1) = 13407807929942597099574024998205846127479365820592393377723561443721764030073315392623399665776056285720014482370779510884422601683867654778417822746804225 := by decide
            rw [p31, p16] at hm
            omega
          have hFl : (D ++ [c]).length = 32 := by rw [List.length_append, hDl]; rfl
          have HFd : Hid (Dg (D ++ [c])) := HDg.out.app (Dg.mk c0 HNV.out.2 Dg.nil)
          have HT' : Hid (Wn 32 wr b3 (D ++ [c])) := by have := HT.out; rw [z] at this; exact this
          have HNV' : Hid (nv (D ++ [c]) = nv a * nv b) := HNV.out.1
          clear HT HNV HE HDg
          generalize D ++ [c] = F at *
          go_wp2
          have HN : Hid (Wrd (wr.alloc (.cells #[.int .u64 0, .int .u64 0, .int .u64 0, .int .u64 0, .int .u64 0, .int .u64 0, .int .u64 0, .int .u64 0, .int .u64 0, .int .u64 0, .int .u64 0, .int .u64 0, .int .u64 0, .int .u64 0, .int .u64 0, .int .u64 0] 31)) wr.heap.size (List.replicate 16 0)) := wrd_box wr (List.replicate 16 0) rfl 31
          have HT2 : Hid (Wn 32 (wr.alloc (.cells #[.int .u64 0, .int .u64 0, .int .u64 0, .int .u64 0, .int .u64 0, .int .u64 0, .int .u64 0, .int .u64 0, .int .u64 0, .int .u64 0, .int .u64 0, .int .u64 0, .int .u64 0, .int .u64 0, .int .u64 0, .int .u64 0] 31)) b3 F) := HT'.out.later (bel1 _ _)
          have HD2 : Hid ((wr.alloc (.cells #[.int .u64 0, .int .u64 0, .int .u64 0, .int .u64 0, .int .u64 0, .int .u64 0, .int .u64 0, .int .u64 0, .int .u64 0, .int .u64 0, .int .u64 0, .int .u64 0, .int .u64 0, .int .u64 0, .int .u64 0, .int .u64 0] 31)).there b2 0 16) := there_later (bel1 _ _) HD.out
          have HG2 : Hid (Gp (wr.alloc (.cells #[.int .u64 0, .int .u64 0, .int .u64 0, .int .u64 0, .int .u64 0, .int .u64 0, .int .u64 0, .int .u64 0, .int .u64 0, .int .u64 0, .int .u64 0, .int .u64 0, .int .u64 0, .int .u64 0, .int .u64 0, .int .u64 0] 31))) := HG.out.later (bel1 _ _)
          have HB2 : Hid (Below w.heap.size w (wr.alloc (.cells #[.int .u64 0, .int .u64 0, .int .u64 0, .int .u64 0, .int .u64 0, .int .u64 0, .int .u64 0, .int .u64 0, .int .u64 0, .int .u64 0, .int .u64 0, .int .u64 0, .int .u64 0, .int .u64 0, .int .u64 0, .int .u64 0] 31))) := HB.out.alloc HB.out.size _
          have k9 : b3 < wr.heap.size := there_lt HT'.out.all (by decide)
          clear HT' HD HG HB
          generalize wr.alloc (.cells #[.int .u64 0, .int .u64 0, .int .u64 0, .int .u64 0, .int .u64 0, .int .u64 0, .int .u64 0, .int .u64 0, .int .u64 0, .int .u64 0, .int .u64 0, .int .u64 0, .int .u64 0, .int .u64 0, .int .u64 0, .int .u64 0] 31) = V0 at *
          generalize wr.heap.size = b9 at *
          have hml := mz_len hFl
          go_loopw [10] (fun i wl => ∃ j : Nat, j ≤ 16 ∧ i = .int .i64 j ∧ Hid (Wrd wl b9 ((mz F).take j ++ (List.replicate 16 (0 : Int)).drop j)) ∧ Hid (Wn 32 wl b3 F) ∧ Hid (wl.there b2 0 16) ∧ Hid (Gp wl) ∧ Hid (Below w.heap.size w wl)) (fun i _ => 16 - (intOf i).toNat)
          case atStart => exact ⟨0, by decide, rfl, by simpa [Hid] using HN, HT2, HD2, HG2, HB2⟩
          case round =>
            clear HN HT2 HD2 HG2 HB2
            obtain ⟨j, hj, rfl, HN, HT, HD, HG, HB⟩ := hrel
            by_cases hlt3 : j < 16
            · have h1 : j < F.length := by omega
              have h2 : j + 16 < F.length := by omega
              have h3 : j < (mz F).length := by omega
              have HS : Hid ((mz F).take (j + 1) = (mz F).take j ++ [F[j] + 38 * F[j + 16]]) := by unfold Hid; rw [take_snoc _ _ h3, mz_at j h1 h2 h3]
              have r1 := HFd.out.at j h1
              have r2 := HFd.out.at (j + 16) h2
              have c1 := (HT.out.cell j h1 hFl).1
              have c2 := (HT.out.cell (j + 16) h2 hFl).1
              have htl : ((mz F).take j).length = j := by rw [List.length_take]; omega
              have hjr : j < (List.replicate 16 (0 : Int)).length := by simpa using hlt3
              have er : (List.replicate 16 (0 : Int))[j] = 0 := List.getElem_replicate _
              have HN' : Hid (Wrd wr b9 ((mz F).take j ++ 0 :: (List.replicate 16 (0 : Int)).drop (j + 1))) := by
                unfold Hid
                have := HN.out
                rw [drop_cons hjr, er] at this
                exact this
              have hlen : ((mz F).take j ++ 0 :: (List.replicate 16 (0 : Int)).drop (j + 1)).length = 16 := by simp only [List.length_append, List.length_cons, List.length_drop, List.length_replicate, htl]; omega
              obtain ⟨c3, f3⟩ := HN'.out.mid hlen
              rw [htl] at c3 f3
              generalize F[j] = r at *
              generalize F[j + 16] = q at *
              obtain ⟨r10, r11⟩ := r1
              obtain ⟨r20, r21⟩ := r2
              have g1 : (j : Int) < 16 := by omega
              have g2 : (j : Int) + 16 < 32 := by omega
              clear HN er
              go_wp2
              go_region
              all_goals
                go_wp2
                go_roundw
                case rel => exact ⟨j + 1, by omega, by go_num, by
                  have := HN'.out.drew.setMid (r + 38 * q)
                  rw [htl] at this
                  unfold Hid
                  rw [HS.out, List.append_assoc]
                  exact this, HT.out.drew.other (by omega) _ _, there_set (there_later (Below.refl _ _).drew HD.out) _ _ _, (HG.out.later (Below.refl _ _).drew).set _ (by dsimp only; omega) _, HB.out.drew.setCell (p := ⟨b9, j, none⟩) (by dsimp only; omega) _⟩
                case measure => simp [intOf]; omega
            · have e : j = 16 := by omega
              subst e
              have HN' : Hid (Wrd wr b9 (mz F)) := by
                have := HN.out
                rw [List.take_of_length_le (by omega), List.drop_eq_nil_of_le (by simp), List.append_nil] at this
                exact this
              obtain ⟨_, _, hi⟩ := no_cells hml
              clear HN
              go_wp2_with (refine wpList_load_mid rfl 31 (.tmp 9) rfl b9 0 rfl (List.map (Value.int .u64) (mz F)) _ HN'.out.rng Tryd.underlying31 rfl hi ?_)
              refine (freeze_any (mz F) hml (mz_dw hFl HFd.out) _ HG.out).mono ?_
              rintro e w1 ⟨z, rfl, HZ, hb'⟩
              replace HD : Hid (w1.there b2 0 16) := there_later hb' HD.out
              replace HB : Hid (Below w.heap.size w w1) := HB.out.trans (hb'.mono HB.out.size)
              have HZ' : Hid (z = dg 16 (nv a * nv b % 57896044618658097711785492504343953926634992332820282019728792003956564819949)) := by unfold Hid; rw [HZ.out, mz_nv hFl, HNV'.out]
              have hzl : z.length = 16 := by rw [HZ.out, dg_length]
              clear hb' hi
              obtain ⟨hlenS, honeS, hiS⟩ := no_cells hzl
              generalize hcs : (List.map (Value.int .u64) z) = cs at *
              have HC : Hid ((List.map (Value.int .u64) z) = cs) := hcs
              clear hcs
              go_wp2_with (refine wpList_store_mid rfl 31 (.tmp 4) (.tmp 74) rfl (b2) 0 cs.toArray rfl rfl (by simpa [hlenS] using HD.out) (by simpa using hiS) (all_oneCell_toArray honeS) ?_)
              have HR2 : Hid ((w1.setCells (b2) 0 cs).rangeAt (b2) 0 cs) := World.rangeAt_setCells_same _ _ _ _ (by rw [hlenS]; exact HD.out)
              have hld := run_loadVar_mid (P := Tryd.prog) _ _ 0 31 _ _ HR2.out Tryd.underlying31 rfl hiS
              exact bodyPost_ret (v := .agg cs.toArray) (by simp [results, Tryd.results13]; exact hld) rfl ⟨z, by rw [HC.out], HZ', below_setCells _ (by omega) _ _ _ HB.out⟩
end Go.Proofs.YtggjifpcoidipaaDoor
