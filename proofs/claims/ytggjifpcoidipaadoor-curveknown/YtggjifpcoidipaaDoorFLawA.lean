/-
  What the law's own helpers do: Pick, prime, edge; two arrays of bytes that are compared. No statement of the seat is proved here.
-/
import Derived.Test.YtggjifpcoidipaaDoorFByte
import Derived.Test.YtggjifpcoidipaaDoorFPrime
import Derived.Stop.BytesEq
namespace Go.Proofs.YtggjifpcoidipaaDoor
open Go.RowKit

set_option maxHeartbeats 1000000 in
theorem pick_any (n m : Int) (hn : -9223372036854775808 ≤ n ∧ n ≤ 9223372036854775807) (hm : 1 ≤ m ∧ m ≤ 1000) (w : World) :
    Calls Tryd.prog 21 #[.int .i64 n, .int .i64 m] w fun e w' => ∃ k, e = .returned (.int .i64 k) ∧ 0 ≤ k ∧ k < m ∧ w' = w := by
  obtain ⟨n0, n1⟩ := hn
  obtain ⟨m0, m1⟩ := hm
  have hl : n.tmod m < m := Int.tmod_lt_of_pos n (by omega)
  have hg : -m < n.tmod m := by
    have := Int.lt_tmod_of_pos n (show 0 < m by omega)
    omega
  by_cases h : 0 ≤ n.tmod m
  · go_enter Tryd.func21, Tryd.ntmps21
    go_wp2
    go_ret
    exact ⟨_, rfl, h, hl, rfl⟩
  · go_enter Tryd.func21, Tryd.ntmps21
    go_wp2
    go_ret
    exact ⟨_, rfl, by omega, by omega, rfl⟩

/-! ### Arrays of bytes that are compared -/
theorem bytes_of : ∀ (l : List Int), Byt l → ∃ xs : List UInt8, xs.length = l.length ∧ l.map (Value.int .u8) = xs.map Extern.Stop.cell ∧ l = xs.map (fun u => (u.toNat : Int))
  | [], _ => ⟨[], rfl, rfl, rfl⟩
  | x :: l, h => by
    obtain ⟨xs, h1, h2, h3⟩ := bytes_of l (fun y hy => h y (by simp [hy]))
    have hx := h x (by simp)
    have e : ((UInt8.ofNat x.toNat).toNat : Int) = x := by
      rw [UInt8.toNat_ofNat']
      omega
    refine ⟨UInt8.ofNat x.toNat :: xs, by simp [h1], ?_, ?_⟩
    · rw [List.map_cons, List.map_cons, h2, Extern.Stop.cell]
      congr 2
      exact e.symm
    · rw [List.map_cons, ← h3, e]
/-- Whether two lists of bytes are the same. -/
def alike (a b : List Int) : Bool := decide (a = b)
theorem eql_arr (a b : List Int) (ha : By a) (hb : By b) (w : World) : Sem.run Tryd.prog (binOp .eql 22 (.agg (List.map (Value.int .u8) a).toArray) (.agg (List.map (Value.int .u8) b).toArray)) w = .ok (.bool (alike a b)) w := by
  obtain ⟨xs, x1, x2, x3⟩ := bytes_of a ha.byt
  obtain ⟨ys, y1, y2, y3⟩ := bytes_of b hb.byt
  rw [x2, y2, run_eql_bytes (P := Tryd.prog) w 22 5 32 Tryd.underlying22 Tryd.underlying5 (fun _ => by kernel_rfl) xs ys (x1.trans ha.len) (y1.trans hb.len)]
  congr 2
  unfold alike
  rw [Bool.eq_iff_iff, beq_iff_eq, decide_eq_true_iff, x3, y3]
  constructor
  · intro h
    rw [h]
  · intro h
    have inj : Function.Injective (fun u : UInt8 => (u.toNat : Int)) := fun p q hpq => UInt8.toNat_inj.1 (Int.ofNat_inj.1 hpq)
    exact (List.map_inj_right (fun p q hpq => inj hpq)).1 h

/-! ### Ranges, cell by cell -/
theorem range_sub {w : World} {b o : Nat} {cs : List Value} (h : w.rangeAt b o cs) (i n : Nat) : w.rangeAt b (o + i) ((cs.drop i).take n) := fun j v hv => by
  have hj : j < n := by
    have := (List.getElem?_eq_some_iff.1 hv).1
    rw [List.length_take] at this
    omega
  rw [List.getElem?_take_of_lt hj, List.getElem?_drop] at hv
  have := h _ v hv
  rwa [show o + (i + j) = o + i + j by omega] at this
theorem range_snoc {w : World} {b k n : Nat} {cs : List Value} (h : w.rangeAt b 0 cs) (hk : cs.length = k) (ht : w.there b 0 n) (hn : k < n) (v : Value) : (w.setCell ⟨b, k, none⟩ v).rangeAt b 0 (cs ++ [v]) := by
  have e : w.setCell ⟨b, k, none⟩ v = w.setCells b k [v] := rfl
  rw [e]
  refine range_app (World.rangeAt_setCells_apart h _ _ _ (.inr (.inl (by omega)))) ?_
  rw [hk, Nat.zero_add]
  exact World.rangeAt_setCells_same _ _ _ _ (fun j hj => by
    have : j = 0 := by simpa using hj
    subst this
    have := ht k hn
    simpa using this)
theorem there_set {w : World} {b o n : Nat} (h : w.there b o n) (b' o' : Nat) (v : Value) : (w.setCell ⟨b', o', none⟩ v).there b o n := World.there_setCells h b' o' [v]
theorem there_cell {w : World} {b n : Nat} (h : w.there b 0 n) (k : Nat) (hk : k < n) : ∃ v, w.cell? ⟨b, k, none⟩ = some v ∧ w.frozen? ⟨b, k, none⟩ = false := by
  obtain ⟨h1, h2⟩ := h k hk
  rw [Nat.zero_add] at h1 h2
  obtain ⟨v, hv⟩ := Option.isSome_iff_exists.1 h1
  exact ⟨v, hv, h2⟩
theorem there_lt {w : World} {b n : Nat} (h : w.there b 0 n) (hn : 0 < n) : b < w.heap.size := by
  obtain ⟨v, hv, _⟩ := there_cell h 0 hn
  exact World.block_lt_of_cell? w _ hv
theorem range_one {w : World} {b k : Nat} {v u : Value} (h : w.cell? ⟨b, k, none⟩ = some u) : (w.setCell ⟨b, k, none⟩ v).rangeAt b k [v] := fun j x hx => by
  have hj : j = 0 := by
    have := (List.getElem?_eq_some_iff.1 hx).1
    simpa using this
  subst hj
  simp at hx
  rw [Nat.add_zero, World.cell?_setCell_same _ _ _ h, hx]
theorem range_far {w : World} {b o k : Nat} {cs : List Value} (h : w.rangeAt b o cs) (hk : k < o ∨ o + cs.length ≤ k) (v : Value) : (w.setCell ⟨b, k, none⟩ v).rangeAt b o cs := by
  have e : w.setCell ⟨b, k, none⟩ v = w.setCells b k [v] := rfl
  rw [e]
  exact World.rangeAt_setCells_apart h _ _ _ (.inr (by simp; omega))
theorem range_else {w : World} {b o b' k : Nat} {cs : List Value} (h : w.rangeAt b o cs) (hk : b ≠ b') (v : Value) : (w.setCell ⟨b', k, none⟩ v).rangeAt b o cs := by
  have e : w.setCell ⟨b', k, none⟩ v = w.setCells b' k [v] := rfl
  rw [e]
  exact World.rangeAt_setCells_apart h _ _ _ (.inl hk)
/-- So many bytes 255. -/
def ff (k : Nat) : List Int := List.replicate k 255
theorem ff_len (k : Nat) : (ff k).length = k := List.length_replicate
theorem ff_snoc (k : Nat) : (List.map (Value.int .u8) (ff k)) ++ [.int .u8 255] = (List.map (Value.int .u8) (ff (k + 1))) := by
  unfold ff
  rw [List.replicate_succ', List.map_append, List.map_cons, List.map_nil]
theorem ff_by (k : Nat) : Byt (ff k) := fun x hx => by
  rw [(List.mem_replicate.1 hx).2]
  decide
/-- The bytes of p and a bit more. -/
def pl (q : Int) : List Int := [q] ++ ff 30 ++ [127]
theorem pl_by (q : Int) (h0 : 0 ≤ q) (h1 : q ≤ 255) : By (pl q) := ⟨by simp [pl, ff_len], (Byt.app (Byt.cons h0 h1 Byt.nil) (ff_by 30)).app (Byt.cons (by decide) (by decide) Byt.nil)⟩
theorem leN_pl (q : Int) : leN (pl q) = q + 57896044618658097711785492504343953926634992332820282019728792003956564819712 := by
  unfold pl
  rw [List.append_assoc, List.singleton_append, leN]
  have : leN (ff 30 ++ [127]) = 226156424291633194186662080095093570025917938800079226639565593765455331327 := by decide
  rw [this]
  omega
/-- The cells of a list of thirty-two bytes: what a store of them wants. -/
theorem by_cells {l : List Int} (h : By l) : (List.map (Value.int .u8) l).length = 32 ∧ (∀ v ∈ (List.map (Value.int .u8) l), v.oneCell' = true) ∧ (Tryd.prog.info? 22).map (·.size) = some (List.map (Value.int .u8) l).length := by
  have e : (List.map (Value.int .u8) l).length = 32 := by rw [List.length_map, h.len]
  exact ⟨e, bytes_oneCell _, by rw [e]; kernel_rfl⟩

set_option maxHeartbeats 4000000 in
theorem prime_any (m : Int) (hm : 0 ≤ m ∧ m ≤ 255) (w : World) :
    Calls Tryd.prog 26 #[.int .u8 m] w fun e w' => ∃ l, e = .returned (.agg (List.map (Value.int .u8) l).toArray) ∧ By l ∧ Hid (l = pl ((237 + m) % 256)) ∧ Below w.heap.size w w' := by
  obtain ⟨m0, m1⟩ := hm
  go_enter Tryd.func26, Tryd.ntmps26
  go_wp2
  have HD : Hid (((w.alloc (.cells #[.int .u8 0, .int .u8 0, .int .u8 0, .int .u8 0, .int .u8 0, .int .u8 0, .int .u8 0, .int .u8 0, .int .u8 0, .int .u8 0, .int .u8 0, .int .u8 0, .int .u8 0, .int .u8 0, .int .u8 0, .int .u8 0, .int .u8 0, .int .u8 0, .int .u8 0, .int .u8 0, .int .u8 0, .int .u8 0, .int .u8 0, .int .u8 0, .int .u8 0, .int .u8 0, .int .u8 0, .int .u8 0, .int .u8 0, .int .u8 0, .int .u8 0, .int .u8 0] 22)).alloc (.cells #[.int .u8 0, .int .u8 0, .int .u8 0, .int .u8 0, .int .u8 0, .int .u8 0, .int .u8 0, .int .u8 0, .int .u8 0, .int .u8 0, .int .u8 0, .int .u8 0, .int .u8 0, .int .u8 0, .int .u8 0, .int .u8 0, .int .u8 0, .int .u8 0, .int .u8 0, .int .u8 0, .int .u8 0, .int .u8 0, .int .u8 0, .int .u8 0, .int .u8 0, .int .u8 0, .int .u8 0, .int .u8 0, .int .u8 0, .int .u8 0, .int .u8 0, .int .u8 0] 22)).there (w.heap.size) 0 32) := there_later (bel1 _ _) (there_new w 32 #[.int .u8 0, .int .u8 0, .int .u8 0, .int .u8 0, .int .u8 0, .int .u8 0, .int .u8 0, .int .u8 0, .int .u8 0, .int .u8 0, .int .u8 0, .int .u8 0, .int .u8 0, .int .u8 0, .int .u8 0, .int .u8 0, .int .u8 0, .int .u8 0, .int .u8 0, .int .u8 0, .int .u8 0, .int .u8 0, .int .u8 0, .int .u8 0, .int .u8 0, .int .u8 0, .int .u8 0, .int .u8 0, .int .u8 0, .int .u8 0, .int .u8 0, .int .u8 0] rfl 22)
  have HT : Hid (((w.alloc (.cells #[.int .u8 0, .int .u8 0, .int .u8 0, .int .u8 0, .int .u8 0, .int .u8 0, .int .u8 0, .int .u8 0, .int .u8 0, .int .u8 0, .int .u8 0, .int .u8 0, .int .u8 0, .int .u8 0, .int .u8 0, .int .u8 0, .int .u8 0, .int .u8 0, .int .u8 0, .int .u8 0, .int .u8 0, .int .u8 0, .int .u8 0, .int .u8 0, .int .u8 0, .int .u8 0, .int .u8 0, .int .u8 0, .int .u8 0, .int .u8 0, .int .u8 0, .int .u8 0] 22)).alloc (.cells #[.int .u8 0, .int .u8 0, .int .u8 0, .int .u8 0, .int .u8 0, .int .u8 0, .int .u8 0, .int .u8 0, .int .u8 0, .int .u8 0, .int .u8 0, .int .u8 0, .int .u8 0, .int .u8 0, .int .u8 0, .int .u8 0, .int .u8 0, .int .u8 0, .int .u8 0, .int .u8 0, .int .u8 0, .int .u8 0, .int .u8 0, .int .u8 0, .int .u8 0, .int .u8 0, .int .u8 0, .int .u8 0, .int .u8 0, .int .u8 0, .int .u8 0, .int .u8 0] 22)).there (w.heap.size + 1) 0 32) := by have := there_new (w.alloc (.cells #[.int .u8 0, .int .u8 0, .int .u8 0, .int .u8 0, .int .u8 0, .int .u8 0, .int .u8 0, .int .u8 0, .int .u8 0, .int .u8 0, .int .u8 0, .int .u8 0, .int .u8 0, .int .u8 0, .int .u8 0, .int .u8 0, .int .u8 0, .int .u8 0, .int .u8 0, .int .u8 0, .int .u8 0, .int .u8 0, .int .u8 0, .int .u8 0, .int .u8 0, .int .u8 0, .int .u8 0, .int .u8 0, .int .u8 0, .int .u8 0, .int .u8 0, .int .u8 0] 22)) 32 #[.int .u8 0, .int .u8 0, .int .u8 0, .int .u8 0, .int .u8 0, .int .u8 0, .int .u8 0, .int .u8 0, .int .u8 0, .int .u8 0, .int .u8 0, .int .u8 0, .int .u8 0, .int .u8 0, .int .u8 0, .int .u8 0, .int .u8 0, .int .u8 0, .int .u8 0, .int .u8 0, .int .u8 0, .int .u8 0, .int .u8 0, .int .u8 0, .int .u8 0, .int .u8 0, .int .u8 0, .int .u8 0, .int .u8 0, .int .u8 0, .int .u8 0, .int .u8 0] rfl 22; simpa [Hid] using this
  have HB : Hid (Below w.heap.size w ((w.alloc (.cells #[.int .u8 0, .int .u8 0, .int .u8 0, .int .u8 0, .int .u8 0, .int .u8 0, .int .u8 0, .int .u8 0, .int .u8 0, .int .u8 0, .int .u8 0, .int .u8 0, .int .u8 0, .int .u8 0, .int .u8 0, .int .u8 0, .int .u8 0, .int .u8 0, .int .u8 0, .int .u8 0, .int .u8 0, .int .u8 0, .int .u8 0, .int .u8 0, .int .u8 0, .int .u8 0, .int .u8 0, .int .u8 0, .int .u8 0, .int .u8 0, .int .u8 0, .int .u8 0] 22)).alloc (.cells #[.int .u8 0, .int .u8 0, .int .u8 0, .int .u8 0, .int .u8 0, .int .u8 0, .int .u8 0, .int .u8 0, .int .u8 0, .int .u8 0, .int .u8 0, .int .u8 0, .int .u8 0, .int .u8 0, .int .u8 0, .int .u8 0, .int .u8 0, .int .u8 0, .int .u8 0, .int .u8 0, .int .u8 0, .int .u8 0, .int .u8 0, .int .u8 0, .int .u8 0, .int .u8 0, .int .u8 0, .int .u8 0, .int .u8 0, .int .u8 0, .int .u8 0, .int .u8 0] 22))) := bel2 _ _ _
  generalize (w.alloc (.cells #[.int .u8 0, .int .u8 0, .int .u8 0, .int .u8 0, .int .u8 0, .int .u8 0, .int .u8 0, .int .u8 0, .int .u8 0, .int .u8 0, .int .u8 0, .int .u8 0, .int .u8 0, .int .u8 0, .int .u8 0, .int .u8 0, .int .u8 0, .int .u8 0, .int .u8 0, .int .u8 0, .int .u8 0, .int .u8 0, .int .u8 0, .int .u8 0, .int .u8 0, .int .u8 0, .int .u8 0, .int .u8 0, .int .u8 0, .int .u8 0, .int .u8 0, .int .u8 0] 22)).alloc (.cells #[.int .u8 0, .int .u8 0, .int .u8 0, .int .u8 0, .int .u8 0, .int .u8 0, .int .u8 0, .int .u8 0, .int .u8 0, .int .u8 0, .int .u8 0, .int .u8 0, .int .u8 0, .int .u8 0, .int .u8 0, .int .u8 0, .int .u8 0, .int .u8 0, .int .u8 0, .int .u8 0, .int .u8 0, .int .u8 0, .int .u8 0, .int .u8 0, .int .u8 0, .int .u8 0, .int .u8 0, .int .u8 0, .int .u8 0, .int .u8 0, .int .u8 0, .int .u8 0] 22) = W0 at *
  go_loopw [4] (fun i wl => ∃ k : Nat, k ≤ 32 ∧ i = .int .i64 k ∧ Hid (wl.there (w.heap.size) 0 32) ∧ Hid (wl.there (w.heap.size + 1) 0 32) ∧ Hid (wl.rangeAt (w.heap.size + 1) 0 (List.map (Value.int .u8) (ff k))) ∧ Hid (Below w.heap.size w wl)) (fun i _ => 32 - (intOf i).toNat)
  case atStart => exact ⟨0, by decide, rfl, HD, HT, fun j v hv => by simp [ff] at hv, HB⟩
  case round =>
    obtain ⟨k, hk, rfl, HD, HT, HR, HB⟩ := hrel
    by_cases hlt : k < 32
    · obtain ⟨v, hv, hf⟩ := there_cell HT.out k hlt
      have g1 : (k : Int) < 32 := by omega
      have HR' := range_snoc HR.out (by rw [List.length_map, ff_len]) HT.out hlt (.int .u8 255)
      rw [ff_snoc] at HR'
      go_wp2
      go_roundw
      case rel => exact ⟨k + 1, by omega, by go_num, there_set HD.out _ _ _, there_set HT.out _ _ _, HR', HB.out.setCell (p := ⟨w.heap.size + 1, k, none⟩) (by dsimp only; omega) _⟩
      case measure => simp [intOf]; omega
    · have e : k = 32 := by omega
      subst e
      obtain ⟨v0, hv0, hf0⟩ := there_cell HT.out 0 (by decide)
      obtain ⟨v31, hc31, hf31⟩ := there_cell HT.out 31 (by decide)
      have hq0 : 0 ≤ (237 + m) % 256 := by omega
      have hq1 : (237 + m) % 256 ≤ 255 := by omega
      go_upto_region 8 with fail
      generalize hq : (237 + m) % 256 = q at *
      have HQ : Hid (q = (237 + m) % 256) := hq.symm
      clear hq
      have hby := pl_by q hq0 hq1
      have HL : Hid (((wr.setCell ⟨w.heap.size + 1, 0, none⟩ (.int .u8 q)).setCell ⟨w.heap.size + 1, 31, none⟩ (.int .u8 127)).rangeAt (w.heap.size + 1) 0 (List.map (Value.int .u8) (pl q))) := by
        have r1 := range_sub HR.out 1 30
        have e : (((List.map (Value.int .u8) (ff 32))).drop 1).take 30 = (List.map (Value.int .u8) (ff 30)) := rfl
        rw [e] at r1
        have s0 := range_one (v := .int .u8 q) hv0
        have s1 := range_far r1 (.inl (by decide)) (.int .u8 q) (k := 0)
        have h31 : (wr.setCell ⟨w.heap.size + 1, 0, none⟩ (.int .u8 q)).cell? ⟨w.heap.size + 1, 31, none⟩ = some v31 := by rw [World.cell?_setCell_other _ _ _ _ (by simp)]; exact hc31
        have u0 := range_far s0 (.inr (by simp)) (.int .u8 127) (k := 31)
        have u1 := range_far s1 (.inr (by rw [List.length_map, ff_len]; decide)) (.int .u8 127) (k := 31)
        have u2 := range_one (v := .int .u8 127) h31
        have a := range_app u0 u1
        have b := range_app a u2
        exact b
      have HD' : Hid (((wr.setCell ⟨w.heap.size + 1, 0, none⟩ (.int .u8 q)).setCell ⟨w.heap.size + 1, 31, none⟩ (.int .u8 127)).there (w.heap.size) 0 32) := there_set (there_set HD.out _ _ _) _ _ _
      have HB' : Hid (Below w.heap.size w ((wr.setCell ⟨w.heap.size + 1, 0, none⟩ (.int .u8 q)).setCell ⟨w.heap.size + 1, 31, none⟩ (.int .u8 127))) := (HB.out.setCell (p := ⟨w.heap.size + 1, 0, none⟩) (by dsimp only; omega) _).setCell (p := ⟨w.heap.size + 1, 31, none⟩) (by dsimp only; omega) _
      generalize ((wr.setCell ⟨w.heap.size + 1, 0, none⟩ (.int .u8 q)).setCell ⟨w.heap.size + 1, 31, none⟩ (.int .u8 127)) = W1 at *
      clear hv0 hf0 hc31 hf31 HR HT HD HB
      have HD := HD'
      have HB := HB'
      clear HD' HB'
      generalize hl : pl q = l at *
      have HP : Hid (l = pl q) := hl.symm
      clear hl
      obtain ⟨hlen, hone, hi⟩ := by_cells hby
      generalize hcs : (List.map (Value.int .u8) l) = cs at *
      have HC : Hid ((List.map (Value.int .u8) l) = cs) := hcs
      clear hcs
      go_wp2_with (first
        | (refine wpList_load_mid rfl 22 (.tmp 3) rfl (w.heap.size + 1) 0 rfl cs _ HL.out Tryd.underlying22 rfl hi ?_)
        | (refine wpList_store_mid rfl 22 (.tmp 2) (.tmp 15) rfl (w.heap.size) 0 cs.toArray rfl rfl (by simpa [hlen] using HD.out) (by simpa using hi) (all_oneCell_toArray hone) ?_))
      have HR2 : Hid ((W1.setCells (w.heap.size) 0 cs).rangeAt (w.heap.size) 0 cs) := World.rangeAt_setCells_same _ _ _ _ (by rw [hlen]; exact HD.out)
      have hld := run_loadVar_mid (P := Tryd.prog) _ _ 0 22 _ _ HR2.out Tryd.underlying22 rfl hi
      refine bodyPost_ret (v := .agg cs.toArray) (by simp [results, Tryd.results26]; exact hld) rfl ⟨l, by rw [HC.out], hby, by unfold Hid; rw [HP.out, HQ.out], below_setCells _ (Nat.le_refl _) _ _ _ HB.out⟩

/-- A byte that comes of a number. -/
theorem by_one (q : Int) (h0 : 0 ≤ q) (h1 : q ≤ 255) : By (q :: List.replicate 31 0) := ⟨by simp, Byt.cons h0 h1 (fun x hx => by rw [(List.mem_replicate.1 hx).2]; decide)⟩
theorem ff_by32 : By (ff 32) := ⟨ff_len 32, ff_by 32⟩

theorem tdiv8 (n : Int) (hn : -9223372036854775808 ≤ n ∧ n ≤ 9223372036854775807) : -9223372036854775808 ≤ n.tdiv 8 ∧ n.tdiv 8 ≤ 9223372036854775807 := by
  by_cases h0 : 0 ≤ n
  · rw [Int.tdiv_eq_ediv_of_nonneg h0]
    omega
  · have e : n = -(-n) := by omega
    rw [e, Int.neg_tdiv, Int.tdiv_eq_ediv_of_nonneg (by omega)]
    omega

set_option maxHeartbeats 4000000 in
theorem edge_any (l : List Int) (hl : By l) (n : Int) (hn : -9223372036854775808 ≤ n ∧ n ≤ 9223372036854775807) (w : World) :
    Calls Tryd.prog 6 #[(.agg (List.map (Value.int .u8) l).toArray), .int .i64 n] w fun e w' => ∃ l', e = .returned (.agg (List.map (Value.int .u8) l').toArray) ∧ By l' ∧ Below w.heap.size w w' := by
  have hn' := hn
  obtain ⟨n0, n1⟩ := hn'
  go_enter Tryd.func6, Tryd.ntmps6
  go_upto_region 1 with fail
  have HT : Hid (((w.alloc (.cells (List.map (Value.int .u8) l).toArray 22)).alloc (.cells #[.int .u8 0, .int .u8 0, .int .u8 0, .int .u8 0, .int .u8 0, .int .u8 0, .int .u8 0, .int .u8 0, .int .u8 0, .int .u8 0, .int .u8 0, .int .u8 0, .int .u8 0, .int .u8 0, .int .u8 0, .int .u8 0, .int .u8 0, .int .u8 0, .int .u8 0, .int .u8 0, .int .u8 0, .int .u8 0, .int .u8 0, .int .u8 0, .int .u8 0, .int .u8 0, .int .u8 0, .int .u8 0, .int .u8 0, .int .u8 0, .int .u8 0, .int .u8 0] 22)).there (w.heap.size) 0 32) := there_later (bel1 _ _) (there_new w 32 (List.map (Value.int .u8) l).toArray (by rw [List.size_toArray, List.length_map, hl.len]) 22)
  have HD : Hid (((w.alloc (.cells (List.map (Value.int .u8) l).toArray 22)).alloc (.cells #[.int .u8 0, .int .u8 0, .int .u8 0, .int .u8 0, .int .u8 0, .int .u8 0, .int .u8 0, .int .u8 0, .int .u8 0, .int .u8 0, .int .u8 0, .int .u8 0, .int .u8 0, .int .u8 0, .int .u8 0, .int .u8 0, .int .u8 0, .int .u8 0, .int .u8 0, .int .u8 0, .int .u8 0, .int .u8 0, .int .u8 0, .int .u8 0, .int .u8 0, .int .u8 0, .int .u8 0, .int .u8 0, .int .u8 0, .int .u8 0, .int .u8 0, .int .u8 0] 22)).there (w.heap.size + 1) 0 32) := by have := there_new (w.alloc (.cells (List.map (Value.int .u8) l).toArray 22)) 32 #[.int .u8 0, .int .u8 0, .int .u8 0, .int .u8 0, .int .u8 0, .int .u8 0, .int .u8 0, .int .u8 0, .int .u8 0, .int .u8 0, .int .u8 0, .int .u8 0, .int .u8 0, .int .u8 0, .int .u8 0, .int .u8 0, .int .u8 0, .int .u8 0, .int .u8 0, .int .u8 0, .int .u8 0, .int .u8 0, .int .u8 0, .int .u8 0, .int .u8 0, .int .u8 0, .int .u8 0, .int .u8 0, .int .u8 0, .int .u8 0, .int .u8 0, .int .u8 0] rfl 22; simpa [Hid] using this
  have HL : Hid (((w.alloc (.cells (List.map (Value.int .u8) l).toArray 22)).alloc (.cells #[.int .u8 0, .int .u8 0, .int .u8 0, .int .u8 0, .int .u8 0, .int .u8 0, .int .u8 0, .int .u8 0, .int .u8 0, .int .u8 0, .int .u8 0, .int .u8 0, .int .u8 0, .int .u8 0, .int .u8 0, .int .u8 0, .int .u8 0, .int .u8 0, .int .u8 0, .int .u8 0, .int .u8 0, .int .u8 0, .int .u8 0, .int .u8 0, .int .u8 0, .int .u8 0, .int .u8 0, .int .u8 0, .int .u8 0, .int .u8 0, .int .u8 0, .int .u8 0] 22)).rangeAt (w.heap.size) 0 (List.map (Value.int .u8) l)) := range_later (bel1 _ _) (fun j v hv => by rw [Nat.zero_add, cell_of_row _ _ _ _ _ _ (heap_alloc_new w _)]; simpa using hv)
  have HB : Hid (Below w.heap.size w ((w.alloc (.cells (List.map (Value.int .u8) l).toArray 22)).alloc (.cells #[.int .u8 0, .int .u8 0, .int .u8 0, .int .u8 0, .int .u8 0, .int .u8 0, .int .u8 0, .int .u8 0, .int .u8 0, .int .u8 0, .int .u8 0, .int .u8 0, .int .u8 0, .int .u8 0, .int .u8 0, .int .u8 0, .int .u8 0, .int .u8 0, .int .u8 0, .int .u8 0, .int .u8 0, .int .u8 0, .int .u8 0, .int .u8 0, .int .u8 0, .int .u8 0, .int .u8 0, .int .u8 0, .int .u8 0, .int .u8 0, .int .u8 0, .int .u8 0] 22))) := bel2 _ _ _
  generalize (w.alloc (.cells (List.map (Value.int .u8) l).toArray 22)).alloc (.cells #[.int .u8 0, .int .u8 0, .int .u8 0, .int .u8 0, .int .u8 0, .int .u8 0, .int .u8 0, .int .u8 0, .int .u8 0, .int .u8 0, .int .u8 0, .int .u8 0, .int .u8 0, .int .u8 0, .int .u8 0, .int .u8 0, .int .u8 0, .int .u8 0, .int .u8 0, .int .u8 0, .int .u8 0, .int .u8 0, .int .u8 0, .int .u8 0, .int .u8 0, .int .u8 0, .int .u8 0, .int .u8 0, .int .u8 0, .int .u8 0, .int .u8 0, .int .u8 0] 22) = W0 at *
  go_wp2_with fail
  refine (pick_any n 8 hn (by decide) _).mono ?_
  rintro e w' ⟨k, rfl, k0, k1, hw⟩
  rw [hw]; clear hw w'
  by_cases h0 : k = 0
  · subst h0
    have hd0 := tdiv8 n hn
    go_wp2_with fail
    refine (pick_any _ 40 hd0 (by decide) _).mono ?_
    rintro e w' ⟨j, rfl, j0, j1, hw⟩
    rw [hw]; clear hw w'
    go_wp2_with fail
    refine (prime_any _ (by omega) _).mono ?_
    rintro e w1 ⟨l1, rfl, hl1, _, hb⟩
    replace HD : Hid (w1.there (w.heap.size + 1) 0 32) := there_later hb HD.out
    replace HB : Hid (Below w.heap.size w w1) := HB.out.trans (hb.mono (by have := there_lt HT.out (by decide); omega))
    clear hb
    obtain ⟨hlen, hone, hi⟩ := by_cells hl1
    generalize hcs : (List.map (Value.int .u8) l1) = cs at *
    have HC : Hid ((List.map (Value.int .u8) l1) = cs) := hcs
    clear hcs
    go_wp2_with (first
      | (refine wpList_store_mid rfl 22 (.tmp 4) (.tmp 15) rfl (w.heap.size + 1) 0 cs.toArray rfl rfl (by simpa [hlen] using HD.out) (by simpa using hi) (all_oneCell_toArray hone) ?_))
    have HR2 : Hid ((w1.setCells (w.heap.size + 1) 0 cs).rangeAt (w.heap.size + 1) 0 cs) := World.rangeAt_setCells_same _ _ _ _ (by rw [hlen]; exact HD.out)
    have hld := run_loadVar_mid (P := Tryd.prog) _ _ 0 22 _ _ HR2.out Tryd.underlying22 rfl hi
    refine bodyPost_ret (v := .agg cs.toArray) (by simp [results, Tryd.results6]; exact hld) rfl ⟨l1, by rw [HC.out], hl1, below_setCells _ (by omega) _ _ _ HB.out⟩
  by_cases h1 : k = 1
  · subst h1
    have hq0 : 0 ≤ n.tdiv 8 % 256 := by omega
    have hq1 : n.tdiv 8 % 256 ≤ 255 := by omega
    have hl1 := by_one (n.tdiv 8 % 256) hq0 hq1
    go_upto_region 5 with fail
    obtain ⟨hlen, hone, hi⟩ := by_cells hl1
    generalize hcs : (List.map (Value.int .u8) (n.tdiv 8 % 256 :: List.replicate 31 0)) = cs at *
    have HC : Hid ((List.map (Value.int .u8) (n.tdiv 8 % 256 :: List.replicate 31 0)) = cs) := hcs
    clear hcs
    go_wp2_with (first
      | (refine wpList_store_mid rfl 22 (.tmp 4) (.tmp 21) rfl (w.heap.size + 1) 0 cs.toArray rfl (by rw [← HC.out]; rfl) (by simpa [hlen] using HD.out) (by simpa using hi) (all_oneCell_toArray hone) ?_))
    have HR2 : Hid ((W0.setCells (w.heap.size + 1) 0 cs).rangeAt (w.heap.size + 1) 0 cs) := World.rangeAt_setCells_same _ _ _ _ (by rw [hlen]; exact HD.out)
    have hld := run_loadVar_mid (P := Tryd.prog) _ _ 0 22 _ _ HR2.out Tryd.underlying22 rfl hi
    refine bodyPost_ret (v := .agg cs.toArray) (by simp [results, Tryd.results6]; exact hld) rfl ⟨n.tdiv 8 % 256 :: List.replicate 31 0, by rw [HC.out], hl1, below_setCells _ (by omega) _ _ _ HB.out⟩
  by_cases h2 : k = 2
  · subst h2
    clear HL
    go_wp2_with fail
    go_loopw [5] (fun i wl => ∃ k : Nat, k ≤ 32 ∧ i = .int .i64 k ∧ Hid (wl.there (w.heap.size) 0 32) ∧ Hid (wl.there (w.heap.size + 1) 0 32) ∧ Hid (wl.rangeAt (w.heap.size) 0 (List.map (Value.int .u8) (ff k))) ∧ Hid (Below w.heap.size w wl)) (fun i _ => 32 - (intOf i).toNat)
    case atStart => exact ⟨0, by decide, rfl, HT, HD, fun j v hv => by simp [ff] at hv, HB⟩
    case round =>
      obtain ⟨k, hk, rfl, HT, HD, HR, HB⟩ := hrel
      by_cases hlt : k < 32
      · obtain ⟨v, hv, hf⟩ := there_cell HT.out k hlt
        have g1 : (k : Int) < 32 := by omega
        have HR' := range_snoc HR.out (by rw [List.length_map, ff_len]) HT.out hlt (.int .u8 255)
        rw [ff_snoc] at HR'
        go_wp2
        go_roundw
        case rel => exact ⟨k + 1, by omega, by go_num, there_set HT.out _ _ _, there_set HD.out _ _ _, HR', HB.out.setCell (p := ⟨w.heap.size, k, none⟩) (by dsimp only; omega) _⟩
        case measure => simp [intOf]; omega
      · have e : k = 32 := by omega
        subst e
        obtain ⟨hlen, hone, hi⟩ := by_cells ff_by32
        generalize hcs : (List.map (Value.int .u8) (ff 32)) = cs at *
        have HC : Hid ((List.map (Value.int .u8) (ff 32)) = cs) := hcs
        clear hcs
        go_wp2_with (first
          | (refine wpList_load_mid rfl 22 (.tmp 2) rfl (w.heap.size) 0 rfl cs _ HR.out Tryd.underlying22 rfl hi ?_)
          | (refine wpList_store_mid rfl 22 (.tmp 4) (.tmp 30) rfl (w.heap.size + 1) 0 cs.toArray rfl rfl (by simpa [hlen] using HD.out) (by simpa using hi) (all_oneCell_toArray hone) ?_))
        have HR2 : Hid ((wr.setCells (w.heap.size + 1) 0 cs).rangeAt (w.heap.size + 1) 0 cs) := World.rangeAt_setCells_same _ _ _ _ (by rw [hlen]; exact HD.out)
        have hld := run_loadVar_mid (P := Tryd.prog) _ _ 0 22 _ _ HR2.out Tryd.underlying22 rfl hi
        refine bodyPost_ret (v := .agg cs.toArray) (by simp [results, Tryd.results6]; exact hld) rfl ⟨ff 32, by rw [HC.out], ff_by32, below_setCells _ (by omega) _ _ _ HB.out⟩
  · have h0' : (k == 0) = false := by simpa using h0
    have h1' : (k == 1) = false := by simpa using h1
    have h2' : (k == 2) = false := by simpa using h2
    obtain ⟨hlen, hone, hi⟩ := by_cells hl
    generalize hcs : (List.map (Value.int .u8) l) = cs at *
    have HC : Hid ((List.map (Value.int .u8) l) = cs) := hcs
    clear hcs
    go_wp2_with (first
      | (refine wpList_load_mid rfl 22 (.tmp 2) rfl (w.heap.size) 0 rfl cs _ HL.out Tryd.underlying22 rfl hi ?_)
      | (refine wpList_store_mid rfl 22 (.tmp 4) (.tmp 30) rfl (w.heap.size + 1) 0 cs.toArray rfl rfl (by simpa [hlen] using HD.out) (by simpa using hi) (all_oneCell_toArray hone) ?_))
    have HR2 : Hid ((W0.setCells (w.heap.size + 1) 0 cs).rangeAt (w.heap.size + 1) 0 cs) := World.rangeAt_setCells_same _ _ _ _ (by rw [hlen]; exact HD.out)
    have hld := run_loadVar_mid (P := Tryd.prog) _ _ 0 22 _ _ HR2.out Tryd.underlying22 rfl hi
    refine bodyPost_ret (v := .agg cs.toArray) (by simp [results, Tryd.results6]; exact hld) rfl ⟨l, by rw [HC.out], hl, below_setCells _ (by omega) _ _ _ HB.out⟩
end Go.Proofs.YtggjifpcoidipaaDoor
