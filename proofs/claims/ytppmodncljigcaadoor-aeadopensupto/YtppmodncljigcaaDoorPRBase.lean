/-
  Slices of words that hold digits from 0 to 255, for the reference's numbers. No statement of the seat is proved here.
-/
import Derived.Test.YtppmodncljigcaaDoorPTag
namespace Go.Proofs.YtppmodncljigcaaDoor
open Go.RowKit

theorem infoU : (Tryd.prog.info? 41).map (fun i => (i.zero, i.size, i.bytes)) = some (some (.int .u32 0), 1, 4) := by kernel_rfl
/-- A slice of words that reads as digits. -/
structure Ru (w : World) (a : Option Addr) (len cap : Nat) (l : List Int) : Prop where
  hlen : l.length = len
  hle : len ≤ cap
  byt : Byt l
  cell : 0 < len → ∃ b off, a = some ⟨b, off, none⟩ ∧ ∀ i, i < len → w.cell? ⟨b, off + i, none⟩ = some (.int .u32 (l[i]?.getD 0))
theorem Ru.below {w w' : World} {a : Option Addr} {len cap : Nat} {l : List Int} (h : Ru w a len cap l) (hb : Below w.heap.size w w') : Ru w' a len cap l :=
  ⟨h.hlen, h.hle, h.byt, fun h0 => by
    obtain ⟨b, off, ha, hc⟩ := h.cell h0
    exact ⟨b, off, ha, fun i hi => cell_later hb (hc i hi)⟩⟩
theorem Ru.nil (w : World) (a : Option Addr) (cap : Nat) : Ru w a 0 cap [] := ⟨rfl, Nat.zero_le _, Byt.nil, fun h => by omega⟩
theorem Ru.owns {w : World} {base : Nat} {e : TypeId} {a : Option Addr} {n cap : Nat} {l : List Int} (hb : Byt l) (h : w.ownsRow base e 1 (.slice a n cap) n (l.map (Value.int .u32))) : Ru w a n cap l := by
  have hl : l.length = n := by simpa using h.1
  rcases h.2 with ⟨hv, rfl⟩ | ⟨g, cap', cur, hv, hg, hh, hle, _, hs, ht⟩
  · have : l = [] := List.eq_nil_of_length_eq_zero hl
    subst this
    cases hv
    exact Ru.nil _ _ _
  · cases hv
    refine ⟨hl, hle, hb, fun _ => ⟨g, 0, rfl, fun i hi => ?_⟩⟩
    rw [Nat.zero_add, World.ownsRow.cellAt h i (by omega)]
    simp [List.getElem?_eq_getElem (show i < l.length by omega)]
theorem words_oneCell (l : List Int) : ∀ u ∈ l.map (Value.int .u32), u.oneCell' = true := ints_oneCell _ _
theorem one_news32 (w : World) (x : Value) (t : TypeId) : ∀ (j : Nat) (u : Value), [x][j]? = some u → (w.alloc (.cells #[x] t)).cell? ((⟨w.heap.size, 0, none⟩ : Addr).add j) = some u := by
  intro j u hu
  have hj : j = 0 := by
    have := (List.getElem?_eq_some_iff.1 hu).1
    simpa using this
  subst hj
  rw [Addr.add_lit, Nat.add_zero, cell_of_row _ _ _ _ _ _ (heap_alloc_new w _)]
  simpa using hu
/-- A row of one's own stays one. -/
theorem own_later {u v : World} {base n : Nat} {e : TypeId} {x : Value} {xs : List Value} (h : u.ownsRow base e 1 x n xs) (hb : Below u.heap.size u v) : v.ownsRow base e 1 x n xs :=
  h.kept (w' := v) (row := none) ⟨hb.os, hb.tape, hb.output, hb.size, fun k hk _ => hb.block k hk⟩ (by cases hx : x.ownBlock <;> simp)
theorem Byt.get {l : List Int} (h : Byt l) {i : Nat} (hi : i < l.length) : 0 ≤ l[i] ∧ l[i] ≤ 255 := h _ (List.getElem_mem hi)
theorem leN_drop (l : List Int) (i : Nat) (h : i < l.length) : leN (l.drop i) = l[i]?.getD 0 + 256 * leN (l.drop (i + 1)) := by
  rw [List.drop_eq_getElem_cons h, leN, List.getElem?_eq_getElem h]
  rfl
theorem leN_dropN (l : List Int) (i : Nat) (h : l.length ≤ i) : leN (l.drop i) = 0 := by
  rw [List.drop_eq_nil_of_le h]
  rfl
theorem leN_snoc (l : List Int) (x : Int) : leN (l ++ [x]) = leN l + 256 ^ l.length * x := by
  rw [leN_app, leN, leN]
  simp
theorem pow_pos (n : Nat) : (0 : Int) < 256 ^ n := Int.pow_pos (by decide)
end Go.Proofs.YtppmodncljigcaaDoor
