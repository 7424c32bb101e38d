/-
  Plain laws for what stands in memory: ranges of cells, arrays of bytes and of words, regions whose order is drawn. No statement of the seat is proved here.
-/
import Derived.Test.YtifcdmiopanedaaDoorOBase
import Derived.Deep.QuietTactic
import Derived.BigQuiet
import Derived.BigFrame
import Derived.Deep.RegionHeld3
import Derived.Deep.RegionLaw
import Derived.Stop.BytesEq
import Derived.Deep.Cut
import Derived.Deep.CutRange
namespace Go.Proofs.YtifcdmiopanedaaDoor
open Go.RowKit

theorem bel1 (w : World) (o : Obj) : Below w.heap.size w (w.alloc o) := (Below.refl _ _).alloc (Nat.le_refl _) o
theorem bel2 (w : World) (o1 o2 : Obj) : Below w.heap.size w ((w.alloc o1).alloc o2) := (bel1 w o1).alloc (by simp) o2
theorem bel3 (w : World) (o1 o2 o3 : Obj) : Below w.heap.size w (((w.alloc o1).alloc o2).alloc o3) := (bel2 w o1 o2).alloc (by simp <;> omega) o3
theorem ret_bool {x y : Bool} (h : x = y) : Ending.returned (.bool x) = .returned (.bool y) := by rw [h]
theorem ret_uu {k k' : IntKind} {a b c d : Int} (h : a = b) (h' : c = d) : Ending.returned (.tuple #[.int k a, .int k' c]) = .returned (.tuple #[.int k b, .int k' d]) := by rw [h, h']
/-- Nothing that was there has turned, but for the block b. -/
structure ExtB (b : Nat) (w w' : World) : Prop where
  os : w'.os = w.os
  tape : w'.tape = w.tape
  output : w'.output = w.output
  size : w.heap.size ≤ w'.heap.size
  block : ∀ k, k < w.heap.size → k ≠ b → w'.heap[k]? = w.heap[k]?
theorem ExtB.refl (b : Nat) (w : World) : ExtB b w w := ⟨rfl, rfl, rfl, Nat.le_refl _, fun _ _ _ => rfl⟩
theorem ExtB.trans {b : Nat} {a u v : World} (h : ExtB b a u) (k : Below u.heap.size u v) : ExtB b a v :=
  ⟨k.os.trans h.os, k.tape.trans h.tape, k.output.trans h.output, Nat.le_trans h.size k.size, fun i hi hb => (k.block i (Nat.lt_of_lt_of_le hi h.size)).trans (h.block i hi hb)⟩
theorem ExtB.drew {b : Nat} {a u : World} (h : ExtB b a u) : ExtB b a u.drew := ⟨h.os, h.tape, h.output, h.size, h.block⟩
theorem ExtB.alloc {b : Nat} {a u : World} (h : ExtB b a u) (o : Obj) : ExtB b a (u.alloc o) := h.trans (bel1 u o)
theorem ExtB.set {b : Nat} {a u : World} (h : ExtB b a u) (o : Nat) (x : Value) : ExtB b a (u.setCell ⟨b, o, none⟩ x) :=
  ⟨h.os, h.tape, h.output, by simpa using h.size, fun k hk hb => by rw [Below.heap_setCell _ _ _ _ hb]; exact h.block k hk hb⟩
theorem ExtB.setNew {b : Nat} {a u : World} (h : ExtB b a u) (p : Addr) (hp : a.heap.size ≤ p.block) (x : Value) : ExtB b a (u.setCell p x) :=
  ⟨h.os, h.tape, h.output, by simpa using h.size, fun k hk hb => by rw [Below.heap_setCell _ _ _ _ (by omega)]; exact h.block k hk hb⟩
theorem ExtB.cell {b : Nat} {a u : World} (h : ExtB b a u) {k o : Nat} {v : Value} (hk : k ≠ b) (hc : a.cell? ⟨k, o, none⟩ = some v) : u.cell? ⟨k, o, none⟩ = some v := by
  rw [World.cell?_of_block (w := a) (h.block k (World.block_lt_of_cell? a _ hc) hk)]
  exact hc
theorem ExtB.below {b : Nat} {w a u : World} (h : ExtB b a u) (k : Below w.heap.size w a) (hb : w.heap.size ≤ b) : Below w.heap.size w u :=
  ⟨h.os.trans k.os, h.tape.trans k.tape, h.output.trans k.output, Nat.le_trans k.size h.size, fun i hi => (h.block i (Nat.lt_of_lt_of_le hi k.size) (by omega)).trans (k.block i hi)⟩
theorem froz_later {W w1 : World} (hb : Below W.heap.size W w1) {b o : Nat} (h : b < W.heap.size) (hf : W.frozen? ⟨b, o, none⟩ = false) : w1.frozen? ⟨b, o, none⟩ = false := by
  rw [hb.frozen (p := ⟨b, o, none⟩) h, hf]
theorem there_later {W w1 : World} (hb : Below W.heap.size W w1) {b o n : Nat} (h : W.there b o n) : w1.there b o n := fun j hj => by
  obtain ⟨h1, h2⟩ := h j hj
  obtain ⟨v, hv⟩ := Option.isSome_iff_exists.1 h1
  exact ⟨by rw [cell_later hb hv]; rfl, froz_later hb (World.block_lt_of_cell? W _ hv) h2⟩
theorem range_later {W w1 : World} (hb : Below W.heap.size W w1) {b o : Nat} {cs : List Value} (h : W.rangeAt b o cs) : w1.rangeAt b o cs := fun j v hv => cell_later hb (h j v hv)
theorem below_setCells {B : Nat} {a : World} (b : Nat) (hb : B ≤ b) : ∀ (vs : List Value) (o : Nat) (u : World), Below B a u → Below B a (u.setCells b o vs)
  | [], _, _, h => h
  | v :: vs, o, _, h => below_setCells b hb vs (o + 1) _ (h.setCell (p := ⟨b, o, none⟩) hb v)
theorem extB_setCells {b : Nat} {a : World} : ∀ (vs : List Value) (o : Nat) (u : World), ExtB b a u → ExtB b a (u.setCells b o vs)
  | [], _, _, h => h
  | v :: vs, o, _, h => extB_setCells vs (o + 1) _ (h.set o v)
theorem range_app {w : World} {b o : Nat} {xs ys : List Value} (h1 : w.rangeAt b o xs) (h2 : w.rangeAt b (o + xs.length) ys) : w.rangeAt b o (xs ++ ys) := fun j v hv => by
  by_cases hj : j < xs.length
  · rw [List.getElem?_append_left hj] at hv
    exact h1 j v hv
  · rw [List.getElem?_append_right (by omega)] at hv
    have := h2 _ v hv
    rwa [show o + xs.length + (j - xs.length) = o + j by omega] at this
theorem there_new (w : World) (n : Nat) (cs : Array Value) (hn : cs.size = n) (t : TypeId) : (w.alloc (.cells cs t)).there w.heap.size 0 n := fun j hj => by
  subst hn
  refine ⟨?_, ?_⟩
  · rw [Nat.zero_add, cell_of_row _ _ _ _ _ _ (heap_alloc_new w _)]
    simp [Array.getElem?_eq_getElem hj]
  · simp [go_sem]
theorem range_sub {w : World} {b o : Nat} {cs : List Value} (h : w.rangeAt b o cs) (i n : Nat) : w.rangeAt b (o + i) ((cs.drop i).take n) := fun j v hv => by
  have hj : j < n := by
    have := (List.getElem?_eq_some_iff.1 hv).1
    rw [List.length_take] at this
    omega
  rw [List.getElem?_take_of_lt hj, List.getElem?_drop] at hv
  have := h _ v hv
  rwa [show o + (i + j) = o + i + j by omega] at this
theorem range_snoc {w : World} {b k n : Nat} {cs : List Value} (h : w.rangeAt b 0 cs) (hk : cs.length = k) (ht : w.there b 0 n) (hn : k < n) (v : Value) : (w.setCell ⟨b, k, none⟩ v).rangeAt b 0 (cs ++ [v]) := by
  have e : w.setCell ⟨b, k, none⟩ v = w.setCells b k [v] := rfl
  rw [e]
  refine range_app (World.rangeAt_setCells_apart h _ _ _ (.inr (.inl (by omega)))) ?_
  rw [hk, Nat.zero_add]
  exact World.rangeAt_setCells_same _ _ _ _ (fun j hj => by
    have : j = 0 := by simpa using hj
    subst this
    have := ht k hn
    simpa using this)
theorem there_set {w : World} {b o n : Nat} (h : w.there b o n) (b' o' : Nat) (v : Value) : (w.setCell ⟨b', o', none⟩ v).there b o n := World.there_setCells h b' o' [v]
theorem there_cell {w : World} {b n : Nat} (h : w.there b 0 n) (k : Nat) (hk : k < n) : ∃ v, w.cell? ⟨b, k, none⟩ = some v ∧ w.frozen? ⟨b, k, none⟩ = false := by
  obtain ⟨h1, h2⟩ := h k hk
  rw [Nat.zero_add] at h1 h2
  obtain ⟨v, hv⟩ := Option.isSome_iff_exists.1 h1
  exact ⟨v, hv, h2⟩
theorem there_lt {w : World} {b n : Nat} (h : w.there b 0 n) (hn : 0 < n) : b < w.heap.size := by
  obtain ⟨v, hv, _⟩ := there_cell h 0 hn
  exact World.block_lt_of_cell? w _ hv
theorem range_one {w : World} {b k : Nat} {v u : Value} (h : w.cell? ⟨b, k, none⟩ = some u) : (w.setCell ⟨b, k, none⟩ v).rangeAt b k [v] := fun j x hx => by
  have hj : j = 0 := by
    have := (List.getElem?_eq_some_iff.1 hx).1
    simpa using this
  subst hj
  simp at hx
  rw [Nat.add_zero, World.cell?_setCell_same _ _ _ h, hx]
theorem range_far {w : World} {b o k : Nat} {cs : List Value} (h : w.rangeAt b o cs) (hk : k < o ∨ o + cs.length ≤ k) (v : Value) : (w.setCell ⟨b, k, none⟩ v).rangeAt b o cs := by
  have e : w.setCell ⟨b, k, none⟩ v = w.setCells b k [v] := rfl
  rw [e]
  exact World.rangeAt_setCells_apart h _ _ _ (.inr (by simp; omega))
theorem range_else {w : World} {b o b' k : Nat} {cs : List Value} (h : w.rangeAt b o cs) (hk : b ≠ b') (v : Value) : (w.setCell ⟨b', k, none⟩ v).rangeAt b o cs := by
  have e : w.setCell ⟨b', k, none⟩ v = w.setCells b' k [v] := rfl
  rw [e]
  exact World.rangeAt_setCells_apart h _ _ _ (.inl hk)
theorem range_set {w : World} {b i : Nat} {cs : List Value} (h : w.rangeAt b 0 cs) (hi : i < cs.length) (v : Value) : (w.setCell ⟨b, i, none⟩ v).rangeAt b 0 (cs.set i v) := fun j u hu => by
  rw [Nat.zero_add]
  by_cases hj : j = i
  · subst hj
    rw [List.getElem?_set_self hi] at hu
    have hc := h j _ (List.getElem?_eq_getElem hi)
    rw [Nat.zero_add] at hc
    rw [World.cell?_setCell_same _ _ _ hc]
    exact hu
  · rw [List.getElem?_set_ne (fun e => hj e.symm)] at hu
    have hc := h j _ hu
    rw [Nat.zero_add] at hc
    rw [World.cell?_setCell_other _ _ _ _ (by simp <;> omega), hc]
/-- Nothing that was there has turned. -/
def Ext (w w' : World) : Prop := Below w.heap.size w w'
theorem Ext.refl (w : World) : Ext w w := Below.refl _ _
theorem Ext.trans {a b c : World} (h : Ext a b) (k : Below b.heap.size b c) : Ext a c := Below.trans h (k.mono h.size)
theorem Ext.drew {a b : World} (h : Ext a b) : Ext a b.drew := Below.drew h
theorem Ext.cell {a u : World} (h : Ext a u) {b o : Nat} {v : Value} (hc : a.cell? ⟨b, o, none⟩ = some v) : u.cell? ⟨b, o, none⟩ = some v := cell_later h hc
/-- The load of a whole array where a guard says yes. -/
theorem wpList_load_want {P : Program} {ops : Array Oper} {rest : List Oper} {op : Oper} {a : Act} {w : World} {Q : Exit → Act → World → Prop} (hw : Region.wanted op (yielded ops a.tmps) = true) (ty : TypeId) (x : Operand) (ho : op.op = .load ty x)
    (b o : Nat) (hx : a.eval x = .pointer (some ⟨b, o, none⟩)) (cs : List Value) (d : TypeDesc) (hc : w.rangeAt b o cs)
    (hu : P.underlying ty = some d) (hd : d.isRow = true) (hi : (P.info? ty).map (·.size) = some cs.length)
    (h : wpList P ops Q rest (a.put op.dst (.agg cs.toArray)) w) : wpList P ops Q (op :: rest) a w :=
  Go.BigFrame.wpList_want hw fun _ hK => wp_load_mid ty x ho b o hx cs d hc hu hd hi (hK _ _ h)
/-- A variable that holds an array: its cells, and how many there are. -/
structure Ar (u : World) (b n : Nat) (cs : List Value) : Prop where
  rng : u.rangeAt b 0 cs
  all : u.there b 0 n
  len : cs.length = n
theorem Ar.later {u u' : World} {b n : Nat} {cs : List Value} (h : Ar u b n cs) (hb : Below u.heap.size u u') : Ar u' b n cs := ⟨range_later hb h.rng, there_later hb h.all, h.len⟩
theorem Ar.lt {u : World} {b n : Nat} {cs : List Value} (h : Ar u b n cs) (hn : 0 < n) : b < u.heap.size := there_lt h.all hn
theorem Ar.drew {u : World} {b n : Nat} {cs : List Value} (h : Ar u b n cs) : Ar u.drew b n cs := ⟨h.rng, h.all, h.len⟩
theorem Ar.set {u : World} {b n : Nat} {cs : List Value} (h : Ar u b n cs) (i : Nat) (hi : i < n) (v : Value) : Ar (u.setCell ⟨b, i, none⟩ v) b n (cs.set i v) :=
  ⟨range_set h.rng (by rw [h.len]; exact hi) v, there_set h.all _ _ _, by rw [List.length_set, h.len]⟩
theorem Ar.else {u : World} {b n : Nat} {cs : List Value} (h : Ar u b n cs) (c i : Nat) (hc : b ≠ c) (v : Value) : Ar (u.setCell ⟨c, i, none⟩ v) b n cs := ⟨range_else h.rng hc v, there_set h.all _ _ _, h.len⟩
theorem ar_box (u : World) (cs : List Value) (n : Nat) (hn : cs.length = n) (t : TypeId) : Ar (u.alloc (.cells cs.toArray t)) u.heap.size n cs :=
  ⟨fun j v hv => by rw [Nat.zero_add, cell_of_row _ _ _ _ _ _ (heap_alloc_new u _)]; simpa using hv, there_new u n _ (by rw [List.size_toArray, hn]) _, hn⟩
theorem Ar.cell {u : World} {b n : Nat} {cs : List Value} (h : Ar u b n cs) (i : Nat) (hi : i < n) : u.cell? ⟨b, i, none⟩ = some (cs[i]'(by rw [h.len]; exact hi)) ∧ u.frozen? ⟨b, i, none⟩ = false := by
  have hc := h.rng i _ (List.getElem?_eq_getElem (by rw [h.len]; exact hi))
  rw [Nat.zero_add] at hc
  obtain ⟨v, _, hf⟩ := there_cell h.all i hi
  exact ⟨hc, hf⟩
/-- All cells are written anew. -/
theorem Ar.all_set {u : World} {b n : Nat} {cs : List Value} (h : u.there b 0 n) (hl : cs.length = n) : Ar (u.setCells b 0 cs) b n cs :=
  ⟨World.rangeAt_setCells_same _ _ _ _ (by rw [hl]; exact h), World.there_setCells h _ _ _, hl⟩
theorem Ar.else_cells {b n : Nat} {cs : List Value} {c : Nat} (hc : b ≠ c) : ∀ (vs : List Value) (o : Nat) {u : World}, Ar u b n cs → Ar (u.setCells c o vs) b n cs
  | [], _, _, h => h
  | v :: vs, o, _, h => Ar.else_cells hc vs (o + 1) (h.else c o hc v)
/-- A part of an array of bytes, as a slice. -/
theorem Ar.rd {u : World} {b n : Nat} {l : List Int} (h : Ar u b n (l.map (Value.int .u8))) (hb : Byt l) (off len cap : Nat) (ho : off + len ≤ n) (hc : len ≤ cap) : Rd u (some ⟨b, off, none⟩) len cap ((l.drop off).take len) :=
  ⟨by have := h.len; rw [List.length_map] at this; rw [List.length_take, List.length_drop]; omega, hc, (fun e => by cases e), fun x hx => hb x (List.mem_of_mem_drop (List.mem_of_mem_take hx)), fun _ => ⟨b, off, rfl, fun i hi => by
    have hl := h.len
    rw [List.length_map] at hl
    have := (h.cell (off + i) (by omega)).1
    rw [this, List.getElem_map, List.getElem?_take_of_lt hi, List.getElem?_drop, List.getElem?_eq_getElem (show off + i < l.length by omega)]
    rfl⟩⟩
theorem Ar.rd_all {u : World} {b n : Nat} {l : List Int} (h : Ar u b n (l.map (Value.int .u8))) (hb : Byt l) (cap : Nat) (hc : n ≤ cap) : Rd u (some ⟨b, 0, none⟩) n cap l := by
  have := h.rd hb 0 n cap (by omega) hc
  have hl := h.len
  rw [List.length_map] at hl
  rwa [List.drop_zero, List.take_of_length_le (by omega)] at this
end Go.Proofs.YtifcdmiopanedaaDoor
