/-
  What the law's own helpers do: Pick, prime, edge; two arrays of bytes that are compared. No statement of the seat is proved here.
-/
import Derived.Test.YtdfmbknofdkffaaFByte
import Derived.Test.YtdfmbknofdkffaaFPrime
import Derived.Stop.BytesEq
namespace Go.Proofs.Ytdfmbknofdkffaa
open Go.RowKit


/-! ### Arrays of bytes that are compared -/
theorem bytes_of : ∀ (l : List Int), Byt l → ∃ xs : List UInt8, xs.length = l.length ∧ l.map (Value.int .u8) = xs.map Extern.Stop.cell ∧ l = xs.map (fun u => (u.toNat : Int))
  | [], _ => ⟨[], rfl, rfl, rfl⟩
  | x :: l, h => by
    obtain ⟨xs, h1, h2, h3⟩ := bytes_of l (fun y hy => h y (by simp [hy]))
    have hx := h x (by simp)
    have e : ((UInt8.ofNat x.toNat).toNat : Int) = x := by
      rw [UInt8.toNat_ofNat']
      omega
    refine ⟨UInt8.ofNat x.toNat :: xs, by simp [h1], ?_, ?_⟩
    · rw [List.map_cons, List.map_cons, h2, Extern.Stop.cell]
      congr 2
      exact e.symm
    · rw [List.map_cons, ← h3, e]
/-- Whether two lists of bytes are the same. -/
def alike (a b : List Int) : Bool := decide (a = b)
theorem eql_arr (a b : List Int) (ha : By a) (hb : By b) (w : World) : Sem.run Try.prog (binOp .eql 22 (.agg (List.map (Value.int .u8) a).toArray) (.agg (List.map (Value.int .u8) b).toArray)) w = .ok (.bool (alike a b)) w := by
  obtain ⟨xs, x1, x2, x3⟩ := bytes_of a ha.byt
  obtain ⟨ys, y1, y2, y3⟩ := bytes_of b hb.byt
  rw [x2, y2, run_eql_bytes (P := Try.prog) w 22 5 32 Try.underlying22 Try.underlying5 (fun _ => by kernel_rfl) xs ys (x1.trans ha.len) (y1.trans hb.len)]
  congr 2
  unfold alike
  rw [Bool.eq_iff_iff, beq_iff_eq, decide_eq_true_iff, x3, y3]
  constructor
  · intro h
    rw [h]
  · intro h
    have inj : Function.Injective (fun u : UInt8 => (u.toNat : Int)) := fun p q hpq => UInt8.toNat_inj.1 (Int.ofNat_inj.1 hpq)
    exact (List.map_inj_right (fun p q hpq => inj hpq)).1 h

/-! ### Ranges, cell by cell -/
theorem range_sub {w : World} {b o : Nat} {cs : List Value} (h : w.rangeAt b o cs) (i n : Nat) : w.rangeAt b (o + i) ((cs.drop i).take n) := fun j v hv => by
  have hj : j < n := by
    have := (List.getElem?_eq_some_iff.1 hv).1
    rw [List.length_take] at this
    omega
  rw [List.getElem?_take_of_lt hj, List.getElem?_drop] at hv
  have := h _ v hv
  rwa [show o + (i + j) = o + i + j by omega] at this
theorem range_snoc {w : World} {b k n : Nat} {cs : List Value} (h : w.rangeAt b 0 cs) (hk : cs.length = k) (ht : w.there b 0 n) (hn : k < n) (v : Value) : (w.setCell ⟨b, k, none⟩ v).rangeAt b 0 (cs ++ [v]) := by
  have e : w.setCell ⟨b, k, none⟩ v = w.setCells b k [v] := rfl
  rw [e]
  refine range_app (World.rangeAt_setCells_apart h _ _ _ (.inr (.inl (by omega)))) ?_
  rw [hk, Nat.zero_add]
  exact World.rangeAt_setCells_same _ _ _ _ (fun j hj => by
    have : j = 0 := by simpa using hj
    subst this
    have := ht k hn
    simpa using this)
theorem there_set {w : World} {b o n : Nat} (h : w.there b o n) (b' o' : Nat) (v : Value) : (w.setCell ⟨b', o', none⟩ v).there b o n := World.there_setCells h b' o' [v]
theorem there_cell {w : World} {b n : Nat} (h : w.there b 0 n) (k : Nat) (hk : k < n) : ∃ v, w.cell? ⟨b, k, none⟩ = some v ∧ w.frozen? ⟨b, k, none⟩ = false := by
  obtain ⟨h1, h2⟩ := h k hk
  rw [Nat.zero_add] at h1 h2
  obtain ⟨v, hv⟩ := Option.isSome_iff_exists.1 h1
  exact ⟨v, hv, h2⟩
theorem there_lt {w : World} {b n : Nat} (h : w.there b 0 n) (hn : 0 < n) : b < w.heap.size := by
  obtain ⟨v, hv, _⟩ := there_cell h 0 hn
  exact World.block_lt_of_cell? w _ hv
theorem range_one {w : World} {b k : Nat} {v u : Value} (h : w.cell? ⟨b, k, none⟩ = some u) : (w.setCell ⟨b, k, none⟩ v).rangeAt b k [v] := fun j x hx => by
  have hj : j = 0 := by
    have := (List.getElem?_eq_some_iff.1 hx).1
    simpa using this
  subst hj
  simp at hx
  rw [Nat.add_zero, World.cell?_setCell_same _ _ _ h, hx]
theorem range_far {w : World} {b o k : Nat} {cs : List Value} (h : w.rangeAt b o cs) (hk : k < o ∨ o + cs.length ≤ k) (v : Value) : (w.setCell ⟨b, k, none⟩ v).rangeAt b o cs := by
  have e : w.setCell ⟨b, k, none⟩ v = w.setCells b k [v] := rfl
  rw [e]
  exact World.rangeAt_setCells_apart h _ _ _ (.inr (by simp; omega))
theorem range_else {w : World} {b o b' k : Nat} {cs : List Value} (h : w.rangeAt b o cs) (hk : b ≠ b') (v : Value) : (w.setCell ⟨b', k, none⟩ v).rangeAt b o cs := by
  have e : w.setCell ⟨b', k, none⟩ v = w.setCells b' k [v] := rfl
  rw [e]
  exact World.rangeAt_setCells_apart h _ _ _ (.inl hk)
/-- So many bytes 255. -/
def ff (k : Nat) : List Int := List.replicate k 255
theorem ff_len (k : Nat) : (ff k).length = k := List.length_replicate
theorem ff_snoc (k : Nat) : (List.map (Value.int .u8) (ff k)) ++ [.int .u8 255] = (List.map (Value.int .u8) (ff (k + 1))) := by
  unfold ff
  rw [List.replicate_succ', List.map_append, List.map_cons, List.map_nil]
theorem ff_by (k : Nat) : Byt (ff k) := fun x hx => by
  rw [(List.mem_replicate.1 hx).2]
  decide
/-- The bytes of p and a bit more. -/
def pl (q : Int) : List Int := [q] ++ ff 30 ++ [127]
theorem pl_by (q : Int) (h0 : 0 ≤ q) (h1 : q ≤ 255) : By (pl q) := ⟨by simp [pl, ff_len], (Byt.app (Byt.cons h0 h1 Byt.nil) (ff_by 30)).app (Byt.cons (by decide) (by decide) Byt.nil)⟩
theorem leN_pl (q : Int) : leN (pl q) = q + 57896044618658097711785492504343953926634992332820282019728792003956564819712 := by
  unfold pl
  rw [List.append_assoc, List.singleton_append, leN]
  have : leN (ff 30 ++ [127]) = 226156424291633194186662080095093570025917938800079226639565593765455331327 := by decide
  rw [this]
  omega
/-- The cells of a list of thirty-two bytes: what a store of them wants. -/
theorem by_cells {l : List Int} (h : By l) : (List.map (Value.int .u8) l).length = 32 ∧ (∀ v ∈ (List.map (Value.int .u8) l), v.oneCell' = true) ∧ (Try.prog.info? 22).map (·.size) = some (List.map (Value.int .u8) l).length := by
  have e : (List.map (Value.int .u8) l).length = 32 := by rw [List.length_map, h.len]
  exact ⟨e, bytes_oneCell _, by rw [e]; kernel_rfl⟩


/-- A byte that comes of a number. -/
theorem by_one (q : Int) (h0 : 0 ≤ q) (h1 : q ≤ 255) : By (q :: List.replicate 31 0) := ⟨by simp, Byt.cons h0 h1 (fun x hx => by rw [(List.mem_replicate.1 hx).2]; decide)⟩
theorem ff_by32 : By (ff 32) := ⟨ff_len 32, ff_by 32⟩

theorem tdiv8 (n : Int) (hn : -9223372036854775808 ≤ n ∧ n ≤ 9223372036854775807) : -9223372036854775808 ≤ n.tdiv 8 ∧ n.tdiv 8 ≤ 9223372036854775807 := by
  by_cases h0 : 0 ≤ n
  · rw [Int.tdiv_eq_ediv_of_nonneg h0]
    omega
  · have e : n = -(-n) := by omega
    rw [e, Int.neg_tdiv, Int.tdiv_eq_ediv_of_nonneg (by omega)]
    omega

end Go.Proofs.Ytdfmbknofdkffaa
