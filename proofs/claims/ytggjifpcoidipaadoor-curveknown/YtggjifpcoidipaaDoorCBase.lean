/-
  Fractions of the curve in memory: variables of two numbers. No statement of the seat is proved here.
-/
import Derived.Test.YtggjifpcoidipaaDoorFSwap
namespace Go.Proofs.YtggjifpcoidipaaDoor
open Go.RowKit

/-- A variable in memory that holds a fraction. -/
structure Fr (u : World) (b : Nat) (x z : Int) : Prop where
  c0 : u.cell? ⟨b, 0, none⟩ = some (.int .u64 (e0 x))
  c1 : u.cell? ⟨b, 1, none⟩ = some (.int .u64 (e1 x))
  c2 : u.cell? ⟨b, 2, none⟩ = some (.int .u64 (e2 x))
  c3 : u.cell? ⟨b, 3, none⟩ = some (.int .u64 (e3 x))
  c4 : u.cell? ⟨b, 4, none⟩ = some (.int .u64 (e0 z))
  c5 : u.cell? ⟨b, 5, none⟩ = some (.int .u64 (e1 z))
  c6 : u.cell? ⟨b, 6, none⟩ = some (.int .u64 (e2 z))
  c7 : u.cell? ⟨b, 7, none⟩ = some (.int .u64 (e3 z))
theorem Fr.later {u u' : World} {b : Nat} {x z : Int} (h : Fr u b x z) (hb : Below u.heap.size u u') : Fr u' b x z := ⟨cell_later hb h.c0, cell_later hb h.c1, cell_later hb h.c2, cell_later hb h.c3, cell_later hb h.c4, cell_later hb h.c5, cell_later hb h.c6, cell_later hb h.c7⟩
theorem Fr.lt {u : World} {b : Nat} {x z : Int} (h : Fr u b x z) : b < u.heap.size := World.block_lt_of_cell? u _ h.c0
theorem fr_new (u : World) (x z : Int) (t : TypeId) : Fr (u.alloc (.cells #[.int .u64 (e0 x), .int .u64 (e1 x), .int .u64 (e2 x), .int .u64 (e3 x), .int .u64 (e0 z), .int .u64 (e1 z), .int .u64 (e2 z), .int .u64 (e3 z)] t)) u.heap.size x z := ⟨by simp [go_sem], by simp [go_sem], by simp [go_sem], by simp [go_sem], by simp [go_sem], by simp [go_sem], by simp [go_sem], by simp [go_sem]⟩
/-- A variable of that kind that may be written. -/
structure Fo (u : World) (b : Nat) : Prop where
  c0 : ∃ x, u.cell? ⟨b, 0, none⟩ = some x
  c1 : ∃ x, u.cell? ⟨b, 1, none⟩ = some x
  c2 : ∃ x, u.cell? ⟨b, 2, none⟩ = some x
  c3 : ∃ x, u.cell? ⟨b, 3, none⟩ = some x
  c4 : ∃ x, u.cell? ⟨b, 4, none⟩ = some x
  c5 : ∃ x, u.cell? ⟨b, 5, none⟩ = some x
  c6 : ∃ x, u.cell? ⟨b, 6, none⟩ = some x
  c7 : ∃ x, u.cell? ⟨b, 7, none⟩ = some x
  f0 : u.frozen? ⟨b, 0, none⟩ = false
  f1 : u.frozen? ⟨b, 1, none⟩ = false
  f2 : u.frozen? ⟨b, 2, none⟩ = false
  f3 : u.frozen? ⟨b, 3, none⟩ = false
  f4 : u.frozen? ⟨b, 4, none⟩ = false
  f5 : u.frozen? ⟨b, 5, none⟩ = false
  f6 : u.frozen? ⟨b, 6, none⟩ = false
  f7 : u.frozen? ⟨b, 7, none⟩ = false
theorem Fo.lt {u : World} {b : Nat} (h : Fo u b) : b < u.heap.size := by
  obtain ⟨x, hx⟩ := h.c0
  exact World.block_lt_of_cell? u _ hx
theorem Fo.later {u u' : World} {b : Nat} (h : Fo u b) (hb : Below u.heap.size u u') : Fo u' b :=
  ⟨h.c0.elim fun x hx => ⟨x, cell_later hb hx⟩, h.c1.elim fun x hx => ⟨x, cell_later hb hx⟩, h.c2.elim fun x hx => ⟨x, cell_later hb hx⟩, h.c3.elim fun x hx => ⟨x, cell_later hb hx⟩, h.c4.elim fun x hx => ⟨x, cell_later hb hx⟩, h.c5.elim fun x hx => ⟨x, cell_later hb hx⟩, h.c6.elim fun x hx => ⟨x, cell_later hb hx⟩, h.c7.elim fun x hx => ⟨x, cell_later hb hx⟩,
    froz_later hb h.lt h.f0, froz_later hb h.lt h.f1, froz_later hb h.lt h.f2, froz_later hb h.lt h.f3, froz_later hb h.lt h.f4, froz_later hb h.lt h.f5, froz_later hb h.lt h.f6, froz_later hb h.lt h.f7⟩
theorem fo_new (u : World) (x0 x1 x2 x3 x4 x5 x6 x7 : Value) (t : TypeId) : Fo (u.alloc (.cells #[x0, x1, x2, x3, x4, x5, x6, x7] t)) u.heap.size :=
  ⟨⟨x0, by simp [go_sem]⟩, ⟨x1, by simp [go_sem]⟩, ⟨x2, by simp [go_sem]⟩, ⟨x3, by simp [go_sem]⟩, ⟨x4, by simp [go_sem]⟩, ⟨x5, by simp [go_sem]⟩, ⟨x6, by simp [go_sem]⟩, ⟨x7, by simp [go_sem]⟩, by simp [go_sem], by simp [go_sem], by simp [go_sem], by simp [go_sem], by simp [go_sem], by simp [go_sem], by simp [go_sem], by simp [go_sem]⟩
theorem fr_set (u : World) (b : Nat) (x z : Int) (h : Fo u b) : Fr ((((((((u.setCell ⟨b, 0, none⟩ (.int .u64 (e0 x))).setCell ⟨b, 1, none⟩ (.int .u64 (e1 x))).setCell ⟨b, 2, none⟩ (.int .u64 (e2 x))).setCell ⟨b, 3, none⟩ (.int .u64 (e3 x))).setCell ⟨b, 4, none⟩ (.int .u64 (e0 z))).setCell ⟨b, 5, none⟩ (.int .u64 (e1 z))).setCell ⟨b, 6, none⟩ (.int .u64 (e2 z))).setCell ⟨b, 7, none⟩ (.int .u64 (e3 z))) b x z := by
  obtain ⟨⟨x0, h0⟩, ⟨x1, h1⟩, ⟨x2, h2⟩, ⟨x3, h3⟩, ⟨x4, h4⟩, ⟨x5, h5⟩, ⟨x6, h6⟩, ⟨x7, h7⟩, f0, f1, f2, f3, f4, f5, f6, f7⟩ := h
  exact ⟨by simp [go_sem, h0], by simp [go_sem, h1], by simp [go_sem, h2], by simp [go_sem, h3], by simp [go_sem, h4], by simp [go_sem, h5], by simp [go_sem, h6], by simp [go_sem, h7]⟩
theorem fo_set (u : World) (b : Nat) (x z : Int) (h : Fo u b) : Fo ((((((((u.setCell ⟨b, 0, none⟩ (.int .u64 (e0 x))).setCell ⟨b, 1, none⟩ (.int .u64 (e1 x))).setCell ⟨b, 2, none⟩ (.int .u64 (e2 x))).setCell ⟨b, 3, none⟩ (.int .u64 (e3 x))).setCell ⟨b, 4, none⟩ (.int .u64 (e0 z))).setCell ⟨b, 5, none⟩ (.int .u64 (e1 z))).setCell ⟨b, 6, none⟩ (.int .u64 (e2 z))).setCell ⟨b, 7, none⟩ (.int .u64 (e3 z))) b := by
  obtain ⟨⟨x0, h0⟩, ⟨x1, h1⟩, ⟨x2, h2⟩, ⟨x3, h3⟩, ⟨x4, h4⟩, ⟨x5, h5⟩, ⟨x6, h6⟩, ⟨x7, h7⟩, f0, f1, f2, f3, f4, f5, f6, f7⟩ := h
  exact ⟨⟨_, by simp [go_sem, h0]; rfl⟩, ⟨_, by simp [go_sem, h1]; rfl⟩, ⟨_, by simp [go_sem, h2]; rfl⟩, ⟨_, by simp [go_sem, h3]; rfl⟩, ⟨_, by simp [go_sem, h4]; rfl⟩, ⟨_, by simp [go_sem, h5]; rfl⟩, ⟨_, by simp [go_sem, h6]; rfl⟩, ⟨_, by simp [go_sem, h7]; rfl⟩, by simp [go_sem, f0], by simp [go_sem, f1], by simp [go_sem, f2], by simp [go_sem, f3], by simp [go_sem, f4], by simp [go_sem, f5], by simp [go_sem, f6], by simp [go_sem, f7]⟩
theorem fr_o8 {u : World} {b c : Nat} {x z : Int} (h : Fr u b x z) (hne : b ≠ c) (v0 v1 v2 v3 v4 v5 v6 v7 : Value) : Fr ((((((((u.setCell ⟨c, 0, none⟩ (v0)).setCell ⟨c, 1, none⟩ (v1)).setCell ⟨c, 2, none⟩ (v2)).setCell ⟨c, 3, none⟩ (v3)).setCell ⟨c, 4, none⟩ (v4)).setCell ⟨c, 5, none⟩ (v5)).setCell ⟨c, 6, none⟩ (v6)).setCell ⟨c, 7, none⟩ (v7)) b x z := by
  obtain ⟨h0, h1, h2, h3, h4, h5, h6, h7⟩ := h
  have hb : c ≠ b := fun e => hne e.symm
  exact ⟨by simp [go_sem, h0], by simp [go_sem, h1], by simp [go_sem, h2], by simp [go_sem, h3], by simp [go_sem, h4], by simp [go_sem, h5], by simp [go_sem, h6], by simp [go_sem, h7]⟩
theorem fo_o8 {u : World} {b c : Nat} (h : Fo u b) (hne : b ≠ c) (v0 v1 v2 v3 v4 v5 v6 v7 : Value) : Fo ((((((((u.setCell ⟨c, 0, none⟩ (v0)).setCell ⟨c, 1, none⟩ (v1)).setCell ⟨c, 2, none⟩ (v2)).setCell ⟨c, 3, none⟩ (v3)).setCell ⟨c, 4, none⟩ (v4)).setCell ⟨c, 5, none⟩ (v5)).setCell ⟨c, 6, none⟩ (v6)).setCell ⟨c, 7, none⟩ (v7)) b := by
  obtain ⟨⟨x0, h0⟩, ⟨x1, h1⟩, ⟨x2, h2⟩, ⟨x3, h3⟩, ⟨x4, h4⟩, ⟨x5, h5⟩, ⟨x6, h6⟩, ⟨x7, h7⟩, f0, f1, f2, f3, f4, f5, f6, f7⟩ := h
  have hb : c ≠ b := fun e => hne e.symm
  exact ⟨⟨x0, by simp [go_sem, h0]⟩, ⟨x1, by simp [go_sem, h1]⟩, ⟨x2, by simp [go_sem, h2]⟩, ⟨x3, by simp [go_sem, h3]⟩, ⟨x4, by simp [go_sem, h4]⟩, ⟨x5, by simp [go_sem, h5]⟩, ⟨x6, by simp [go_sem, h6]⟩, ⟨x7, by simp [go_sem, h7]⟩, by simp [go_sem, f0], by simp [go_sem, f1], by simp [go_sem, f2], by simp [go_sem, f3], by simp [go_sem, f4], by simp [go_sem, f5], by simp [go_sem, f6], by simp [go_sem, f7]⟩
theorem var_o8 {u : World} {b c : Nat} {v : Int} (h : Var u b v) (hne : b ≠ c) (v0 v1 v2 v3 v4 v5 v6 v7 : Value) : Var ((((((((u.setCell ⟨c, 0, none⟩ (v0)).setCell ⟨c, 1, none⟩ (v1)).setCell ⟨c, 2, none⟩ (v2)).setCell ⟨c, 3, none⟩ (v3)).setCell ⟨c, 4, none⟩ (v4)).setCell ⟨c, 5, none⟩ (v5)).setCell ⟨c, 6, none⟩ (v6)).setCell ⟨c, 7, none⟩ (v7)) b v := by
  obtain ⟨h0, h1, h2, h3⟩ := h
  have hb : c ≠ b := fun e => hne e.symm
  exact ⟨by simp [go_sem, h0], by simp [go_sem, h1], by simp [go_sem, h2], by simp [go_sem, h3]⟩
theorem arr_o8 {u : World} {b c : Nat} {cs : List Value} (h : Arr u b cs) (hne : b ≠ c) (v0 v1 v2 v3 v4 v5 v6 v7 : Value) : Arr ((((((((u.setCell ⟨c, 0, none⟩ (v0)).setCell ⟨c, 1, none⟩ (v1)).setCell ⟨c, 2, none⟩ (v2)).setCell ⟨c, 3, none⟩ (v3)).setCell ⟨c, 4, none⟩ (v4)).setCell ⟨c, 5, none⟩ (v5)).setCell ⟨c, 6, none⟩ (v6)).setCell ⟨c, 7, none⟩ (v7)) b cs :=
  ⟨range_else (range_else (range_else (range_else (range_else (range_else (range_else (range_else h.rng hne _) hne _) hne _) hne _) hne _) hne _) hne _) hne _, there_set (there_set (there_set (there_set (there_set (there_set (there_set (there_set h.all _ _ _) _ _ _) _ _ _) _ _ _) _ _ _) _ _ _) _ _ _) _ _ _⟩
theorem below_set8 {B : Nat} {a u : World} (h : Below B a u) (n : Nat) (hn : B ≤ n) (v0 v1 v2 v3 v4 v5 v6 v7 : Value) : Below B a ((((((((u.setCell ⟨n, 0, none⟩ (v0)).setCell ⟨n, 1, none⟩ (v1)).setCell ⟨n, 2, none⟩ (v2)).setCell ⟨n, 3, none⟩ (v3)).setCell ⟨n, 4, none⟩ (v4)).setCell ⟨n, 5, none⟩ (v5)).setCell ⟨n, 6, none⟩ (v6)).setCell ⟨n, 7, none⟩ (v7)) :=
  (((((((h.setCell (p := ⟨n, 0, none⟩) hn _).setCell (p := ⟨n, 1, none⟩) hn _).setCell (p := ⟨n, 2, none⟩) hn _).setCell (p := ⟨n, 3, none⟩) hn _).setCell (p := ⟨n, 4, none⟩) hn _).setCell (p := ⟨n, 5, none⟩) hn _).setCell (p := ⟨n, 6, none⟩) hn _).setCell (p := ⟨n, 7, none⟩) hn _
theorem fr_o4 {u : World} {b c : Nat} {x z : Int} (h : Fr u b x z) (hne : b ≠ c) (v0 v1 v2 v3 : Value) : Fr ((((u.setCell ⟨c, 0, none⟩ (v0)).setCell ⟨c, 1, none⟩ (v1)).setCell ⟨c, 2, none⟩ (v2)).setCell ⟨c, 3, none⟩ (v3)) b x z := by
  obtain ⟨h0, h1, h2, h3, h4, h5, h6, h7⟩ := h
  have hb : c ≠ b := fun e => hne e.symm
  exact ⟨by simp [go_sem, h0], by simp [go_sem, h1], by simp [go_sem, h2], by simp [go_sem, h3], by simp [go_sem, h4], by simp [go_sem, h5], by simp [go_sem, h6], by simp [go_sem, h7]⟩
theorem fo_o4 {u : World} {b c : Nat} (h : Fo u b) (hne : b ≠ c) (v0 v1 v2 v3 : Value) : Fo ((((u.setCell ⟨c, 0, none⟩ (v0)).setCell ⟨c, 1, none⟩ (v1)).setCell ⟨c, 2, none⟩ (v2)).setCell ⟨c, 3, none⟩ (v3)) b := by
  obtain ⟨⟨x0, h0⟩, ⟨x1, h1⟩, ⟨x2, h2⟩, ⟨x3, h3⟩, ⟨x4, h4⟩, ⟨x5, h5⟩, ⟨x6, h6⟩, ⟨x7, h7⟩, f0, f1, f2, f3, f4, f5, f6, f7⟩ := h
  have hb : c ≠ b := fun e => hne e.symm
  exact ⟨⟨x0, by simp [go_sem, h0]⟩, ⟨x1, by simp [go_sem, h1]⟩, ⟨x2, by simp [go_sem, h2]⟩, ⟨x3, by simp [go_sem, h3]⟩, ⟨x4, by simp [go_sem, h4]⟩, ⟨x5, by simp [go_sem, h5]⟩, ⟨x6, by simp [go_sem, h6]⟩, ⟨x7, by simp [go_sem, h7]⟩, by simp [go_sem, f0], by simp [go_sem, f1], by simp [go_sem, f2], by simp [go_sem, f3], by simp [go_sem, f4], by simp [go_sem, f5], by simp [go_sem, f6], by simp [go_sem, f7]⟩

/-- Nothing that was there has turned, but for the blocks of a list. -/
structure ExtL (bs : List Nat) (w w' : World) : Prop where
  os : w'.os = w.os
  tape : w'.tape = w.tape
  output : w'.output = w.output
  size : w.heap.size ≤ w'.heap.size
  block : ∀ k, k < w.heap.size → k ∉ bs → w'.heap[k]? = w.heap[k]?
theorem ExtL.refl (bs : List Nat) (w : World) : ExtL bs w w := ⟨rfl, rfl, rfl, Nat.le_refl _, fun _ _ _ => rfl⟩
theorem ExtL.trans {bs : List Nat} {a u v : World} (h : ExtL bs a u) (k : Below u.heap.size u v) : ExtL bs a v :=
  ⟨k.os.trans h.os, k.tape.trans h.tape, k.output.trans h.output, Nat.le_trans h.size k.size, fun i hi hb => (k.block i (Nat.lt_of_lt_of_le hi h.size)).trans (h.block i hi hb)⟩
theorem ExtL.drew {bs : List Nat} {a u : World} (h : ExtL bs a u) : ExtL bs a u.drew := ⟨h.os, h.tape, h.output, h.size, h.block⟩
theorem ExtL.set {bs : List Nat} {a u : World} (h : ExtL bs a u) {b : Nat} (hb : b ∈ bs) (o : Nat) (x : Value) : ExtL bs a (u.setCell ⟨b, o, none⟩ x) :=
  ⟨h.os, h.tape, h.output, by simpa using h.size, fun k hk hn => by rw [Below.heap_setCell _ _ _ _ (fun e => hn (by simp only at e; exact e ▸ hb))]; exact h.block k hk hn⟩
theorem ExtL.cell {bs : List Nat} {a u : World} (h : ExtL bs a u) {k o : Nat} {v : Value} (hk : k ∉ bs) (hc : a.cell? ⟨k, o, none⟩ = some v) : u.cell? ⟨k, o, none⟩ = some v := by
  rw [World.cell?_of_block (w := a) (h.block k (World.block_lt_of_cell? a _ hc) hk)]
  exact hc
theorem ExtL.below {bs : List Nat} {w a u : World} (h : ExtL bs a u) (k : Below w.heap.size w a) (hb : ∀ b ∈ bs, w.heap.size ≤ b) : Below w.heap.size w u :=
  ⟨h.os.trans k.os, h.tape.trans k.tape, h.output.trans k.output, Nat.le_trans k.size h.size, fun i hi => (h.block i (Nat.lt_of_lt_of_le hi k.size) (fun m => absurd (hb i m) (by omega))).trans (k.block i hi)⟩
theorem ExtL.set8 {bs : List Nat} {a u : World} (h : ExtL bs a u) {b : Nat} (hb : b ∈ bs) (v0 v1 v2 v3 v4 v5 v6 v7 : Value) : ExtL bs a ((((((((u.setCell ⟨b, 0, none⟩ (v0)).setCell ⟨b, 1, none⟩ (v1)).setCell ⟨b, 2, none⟩ (v2)).setCell ⟨b, 3, none⟩ (v3)).setCell ⟨b, 4, none⟩ (v4)).setCell ⟨b, 5, none⟩ (v5)).setCell ⟨b, 6, none⟩ (v6)).setCell ⟨b, 7, none⟩ (v7)) :=
  (((((((h.set hb _ _).set hb _ _).set hb _ _).set hb _ _).set hb _ _).set hb _ _).set hb _ _).set hb _ _
end Go.Proofs.YtggjifpcoidipaaDoor
