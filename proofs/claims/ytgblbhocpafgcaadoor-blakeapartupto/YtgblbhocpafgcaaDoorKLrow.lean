/-
  A slice of slices of bytes that grows by append; a slice of numbers that came in. No statement of the seat is proved here.
-/
import Derived.Test.YtgblbhocpafgcaaDoorKRow
import Derived.Test.YtgblbhocpafgcaaDoorKOpen
namespace Go.Proofs.YtgblbhocpafgcaaDoor
open Go.ChangeShapes Go.WideShapes Go.ChangeAt Go.RowKit

/-- v is a slice of one's own that holds n slices, which read, since the world W0, as the lists L. -/
structure Lrow (W0 u : World) (base : Nat) (v : Value) (n : Nat) (L : List (List Int)) : Prop where
  own : ∃ cs, u.ownsRow base 28 1 v n cs ∧ ∀ i, i < n → ∃ a m c, cs[i]? = some (.slice a m c) ∧ Rd W0 a m c (L[i]?.getD [])
  len : L.length = n
theorem Lrow.nil (W0 u : World) (base : Nat) : Lrow W0 u base (.slice none 0 0) 0 [] := ⟨⟨[], World.ownsRow_nil _ _ _ _, fun i hi => absurd hi (Nat.not_lt_zero i)⟩, rfl⟩
theorem Lrow.grown {W0 u u' : World} {base n : Nat} {v : Value} {L : List (List Int)} {row : Option Nat} (h : Lrow W0 u base v n L) (hg : u.grownBy u' row) (hne : v.ownBlock = none ∨ v.ownBlock ≠ row) : Lrow W0 u' base v n L := by
  obtain ⟨cs, h1, h2⟩ := h.own
  exact ⟨⟨cs, h1.kept hg hne, h2⟩, h.len⟩
theorem Lrow.later {W0 u u' : World} {base n : Nat} {v : Value} {L : List (List Int)} (h : Lrow W0 u base v n L) (hb : Below u.heap.size u u') : Lrow W0 u' base v n L :=
  h.grown (row := none) ⟨hb.os, hb.tape, hb.output, hb.size, fun k hk _ => hb.block k hk⟩ (by cases v.ownBlock <;> simp)
theorem Lrow.extb {W0 u u' : World} {base n b : Nat} {v : Value} {L : List (List Int)} (h : Lrow W0 u base v n L) (hb : ExtB b u u') (hlt : b < base) : Lrow W0 u' base v n L :=
  h.grown (row := some b) ⟨hb.os, hb.tape, hb.output, hb.size, fun k hk hne => hb.block k hk (fun e => hne (by rw [e]))⟩ (by
    obtain ⟨cs, h1, _⟩ := h.own
    cases hv : v.ownBlock with
    | none => exact .inl rfl
    | some g => exact .inr (fun e => by have := (h1.lt g hv).1; cases e; omega))
theorem Lrow.shape {W0 u : World} {base n : Nat} {v : Value} {L : List (List Int)} (h : Lrow W0 u base v n L) : ∃ a c, v = .slice a n c := by
  obtain ⟨cs, h1, _⟩ := h.own
  exact owns_shape h1
theorem Lrow.rdl {W0 u : World} {base n c : Nat} {a : Option Addr} {L : List (List Int)} (h : Lrow W0 u base (.slice a n c) n L) (hb : Below W0.heap.size W0 u) : RdL u a n L := ⟨h.len, fun h0 => by
  obtain ⟨cs, h1, h2⟩ := h.own
  rcases h1.2 with ⟨hv, e⟩ | ⟨g, cap, cur, hv, _⟩
  · cases hv; omega
  · cases hv
    refine ⟨g, 0, rfl, fun i hi => ?_⟩
    obtain ⟨ai, mi, ci, h3, h4⟩ := h2 i hi
    refine ⟨ai, mi, ci, ?_, h4.below hb⟩
    rw [Nat.zero_add, World.ownsRow.cellAt h1 i (by omega), h3]⟩
theorem Lrow.more {W0 u : World} {base n : Nat} {v' : Value} {L : List (List Int)} {cs : List Value} {a : Option Addr} {m c : Nat} {x : List Int} (hl : L.length = n) (h1 : cs.length = n) (h2 : ∀ i, i < n → ∃ a m c, cs[i]? = some (.slice a m c) ∧ Rd W0 a m c (L[i]?.getD [])) (hx : Rd W0 a m c x)
    (h : u.ownsRow base 28 1 v' (n + 1) (cs ++ [.slice a m c])) : Lrow W0 u base v' (n + 1) (L ++ [x]) := ⟨⟨_, h, fun i hi => by
  by_cases hlt : i < n
  · obtain ⟨a', m', c', h3, h4⟩ := h2 i hlt
    exact ⟨a', m', c', by rw [List.getElem?_append_left (by omega)]; exact h3, by rw [List.getElem?_append_left (by omega)]; exact h4⟩
  · have e : i = n := by omega
    subst e
    refine ⟨a, m, c, ?_, ?_⟩
    · rw [List.getElem?_append_right (by omega), h1, Nat.sub_self]; rfl
    · rw [List.getElem?_append_right (by omega), hl, Nat.sub_self]; exact hx⟩, by rw [List.length_append, hl]; rfl⟩
theorem one_newsS (w : World) (x : Value) (t : TypeId) : ∀ (j : Nat) (u : Value), [x][j]? = some u → (w.alloc (.cells #[x] t)).cell? ((⟨w.heap.size, 0, none⟩ : Addr).add j) = some u := by
  intro j u hu
  have hj : j = 0 := by
    have := (List.getElem?_eq_some_iff.1 hu).1
    simpa using this
  subst hj
  rw [Addr.add_lit, Nat.add_zero, cell_of_row _ _ _ _ _ _ (heap_alloc_new w _)]
  simpa using hu
theorem info28 : (Tryd.prog.info? 28).map (fun i => (i.zero, i.size, i.bytes)) = some (some (.slice none 0 0), 1, 24) := by kernel_rfl
/-- A slice of numbers. -/
structure Ri (w : World) (a : Option Addr) (len : Nat) (l : List Int) : Prop where
  hlen : l.length = len
  bnd : ∀ i : Nat, -9223372036854775808 ≤ l[i]?.getD 0 ∧ l[i]?.getD 0 ≤ 9223372036854775807
  cell : 0 < len → ∃ b off, a = some ⟨b, off, none⟩ ∧ ∀ i, i < len → w.cell? ⟨b, off + i, none⟩ = some (.int .i64 (l[i]?.getD 0))
theorem cellsI : Tryd.prog.cellsOf 3 = 1 := by kernel_rfl
theorem bytesI : Tryd.prog.bytesOf 3 = 8 := by kernel_rfl
theorem open_numbers {H : Type} {enc : TypeId × Value → H} {W : World} {base : Nat} {spare : Nat → Bool} {held : Bool} {a : Option Addr} {len cap : Nat} {d : DataW H} {p : List MemPlace} (h : DataW.Trod enc Tryd.prog W base spare held 35 (.slice a len cap) d p) :
    ∃ l, Ri W a len l ∧ ((d = .nil ∧ len = 0) ∨ ∃ e s, d = .slice e s ∧ len ≤ e.length + s.length) := by
  obtain ⟨fuel, hf⟩ := h
  rcases open_ints Tryd.underlying35 Tryd.underlying3 cellsI hf with ⟨hcs, hx⟩ | ⟨x, l, c, zs, hcs, _, hl, hm, hz, hx, hcell, hwz⟩
  · simp [Value.cells] at hcs
    obtain ⟨rfl, rfl, rfl⟩ := hcs
    simp only [Prod.mk.injEq] at hx
    exact ⟨[], ⟨rfl, fun i => by simp, fun h => by omega⟩, .inl ⟨hx.1, rfl⟩⟩
  · simp [Value.cells] at hcs
    obtain ⟨rfl, rfl, rfl⟩ := hcs
    simp only [Prod.mk.injEq] at hx
    have hzl : len ≤ zs.length := by rw [hz]; split <;> omega
    refine ⟨zs.take len, ⟨by rw [List.length_take]; omega, fun i => ?_, fun h0 => ?_⟩, .inr ⟨_, _, hx.1, ?_⟩⟩
    · by_cases hi : i < (zs.take len).length
      · rw [List.getElem?_eq_getElem hi, Option.getD_some]
        exact bounds_i64 (hwz _ (List.mem_of_mem_take (List.getElem_mem hi)))
      · rw [List.getElem?_eq_none (by omega)]
        simp
    · obtain ⟨b, off, rfl, hc⟩ := ints_at hcell (by omega)
      refine ⟨b, off, rfl, fun i hi => ?_⟩
      rw [hc i (by omega), List.getD_eq_getElem?_getD, List.getElem?_take_of_lt hi]
    · simp only [lits, List.length_map, List.length_take, List.length_drop]
      omega
theorem reach_numbers {H : Type} {ts : List TypeId} {ds : List (DataW H)} {d : DataW H} {len : Nat} (hsz : (DataW.weightsEach Tryd.prog ts ds).all (· ≤ reachBytes) = true) (j : Nat) (ht : ts[j]? = some 35) (hd : ds[j]? = some d)
    (h : (d = .nil ∧ len = 0) ∨ ∃ e s, d = .slice e s ∧ len ≤ e.length + s.length) : len ≤ 140737488351232 := by
  rcases h with ⟨_, rfl⟩ | ⟨e, s, rfl, hl⟩
  · omega
  · have := sized_slice hsz (j := j) (t := 35) (e := 3) ht hd Tryd.underlying35
    rw [bytesI] at this
    simp only [reachBytes] at this
    omega
end Go.Proofs.YtgblbhocpafgcaaDoor
