/-
  Several texts of one's own, laid together. No statement of the seat is proved here.
-/
import Derived.Test.YtlnbjehimabaiaaGreatDoorPk25
import Derived.Test.YtlnbjehimabaiaaGreatDoorPk1
/-
 Fractions of the curve in memory: variables of two numbers. No statement of the seat is proved here.
-/
namespace Go.Proofs.YtlnbjehimabaiaaGreatDoor.Fc
open Go.RowKit
set_option maxRecDepth 8000

/-- A variable in memory that holds a fraction. -/
structure Fr (u : World) (b : Nat) (x z : Int) : Prop where
 c0 : u.cell? ⟨b, 0, none⟩ = some (.int .u64 (e0 x))
 c1 : u.cell? ⟨b, 1, none⟩ = some (.int .u64 (e1 x))
 c2 : u.cell? ⟨b, 2, none⟩ = some (.int .u64 (e2 x))
 c3 : u.cell? ⟨b, 3, none⟩ = some (.int .u64 (e3 x))
 c4 : u.cell? ⟨b, 4, none⟩ = some (.int .u64 (e0 z))
 c5 : u.cell? ⟨b, 5, none⟩ = some (.int .u64 (e1 z))
 c6 : u.cell? ⟨b, 6, none⟩ = some (.int .u64 (e2 z))
 c7 : u.cell? ⟨b, 7, none⟩ = some (.int .u64 (e3 z))
theorem Fr.later {u u' : World} {b : Nat} {x z : Int} (h : Fr u b x z) (hb : Below u.heap.size u u') : Fr u' b x z := ⟨cell_later hb h.c0, cell_later hb h.c1, cell_later hb h.c2, cell_later hb h.c3, cell_later hb h.c4, cell_later hb h.c5, cell_later hb h.c6, cell_later hb h.c7⟩
theorem Fr.lt {u : World} {b : Nat} {x z : Int} (h : Fr u b x z) : b < u.heap.size := World.block_lt_of_cell? u _ h.c0
theorem fr_new (u : World) (x z : Int) (t : TypeId) : Fr (u.alloc (.cells #[.int .u64 (e0 x), .int .u64 (e1 x), .int .u64 (e2 x), .int .u64 (e3 x), .int .u64 (e0 z), .int .u64 (e1 z), .int .u64 (e2 z), .int .u64 (e3 z)] t)) u.heap.size x z := ⟨by simp [go_sem], by simp [go_sem], by simp [go_sem], by simp [go_sem], by simp [go_sem], by simp [go_sem], by simp [go_sem], by simp [go_sem]⟩
/-- A variable of that kind that may be written. -/
structure Fo (u : World) (b : Nat) : Prop where
 c0 : ∃ x, u.cell? ⟨b, 0, none⟩ = some x
 c1 : ∃ x, u.cell? ⟨b, 1, none⟩ = some x
 c2 : ∃ x, u.cell? ⟨b, 2, none⟩ = some x
 c3 : ∃ x, u.cell? ⟨b, 3, none⟩ = some x
 c4 : ∃ x, u.cell? ⟨b, 4, none⟩ = some x
 c5 : ∃ x, u.cell? ⟨b, 5, none⟩ = some x
 c6 : ∃ x, u.cell? ⟨b, 6, none⟩ = some x
 c7 : ∃ x, u.cell? ⟨b, 7, none⟩ = some x
 f0 : u.frozen? ⟨b, 0, none⟩ = false
 f1 : u.frozen? ⟨b, 1, none⟩ = false
 f2 : u.frozen? ⟨b, 2, none⟩ = false
 f3 : u.frozen? ⟨b, 3, none⟩ = false
 f4 : u.frozen? ⟨b, 4, none⟩ = false
 f5 : u.frozen? ⟨b, 5, none⟩ = false
 f6 : u.frozen? ⟨b, 6, none⟩ = false
 f7 : u.frozen? ⟨b, 7, none⟩ = false
theorem Fo.lt {u : World} {b : Nat} (h : Fo u b) : b < u.heap.size := by
 obtain ⟨x, hx⟩ := h.c0
 exact World.block_lt_of_cell? u _ hx
theorem Fo.later {u u' : World} {b : Nat} (h : Fo u b) (hb : Below u.heap.size u u') : Fo u' b :=
 ⟨h.c0.elim fun x hx => ⟨x, cell_later hb hx⟩, h.c1.elim fun x hx => ⟨x, cell_later hb hx⟩, h.c2.elim fun x hx => ⟨x, cell_later hb hx⟩, h.c3.elim fun x hx => ⟨x, cell_later hb hx⟩, h.c4.elim fun x hx => ⟨x, cell_later hb hx⟩, h.c5.elim fun x hx => ⟨x, cell_later hb hx⟩, h.c6.elim fun x hx => ⟨x, cell_later hb hx⟩, h.c7.elim fun x hx => ⟨x, cell_later hb hx⟩,
  froz_later hb h.lt h.f0, froz_later hb h.lt h.f1, froz_later hb h.lt h.f2, froz_later hb h.lt h.f3, froz_later hb h.lt h.f4, froz_later hb h.lt h.f5, froz_later hb h.lt h.f6, froz_later hb h.lt h.f7⟩
theorem fo_new (u : World) (x0 x1 x2 x3 x4 x5 x6 x7 : Value) (t : TypeId) : Fo (u.alloc (.cells #[x0, x1, x2, x3, x4, x5, x6, x7] t)) u.heap.size :=
 ⟨⟨x0, by simp [go_sem]⟩, ⟨x1, by simp [go_sem]⟩, ⟨x2, by simp [go_sem]⟩, ⟨x3, by simp [go_sem]⟩, ⟨x4, by simp [go_sem]⟩, ⟨x5, by simp [go_sem]⟩, ⟨x6, by simp [go_sem]⟩, ⟨x7, by simp [go_sem]⟩, by simp [go_sem], by simp [go_sem], by simp [go_sem], by simp [go_sem], by simp [go_sem], by simp [go_sem], by simp [go_sem], by simp [go_sem]⟩
theorem fr_set (u : World) (b : Nat) (x z : Int) (h : Fo u b) : Fr ((((((((u.setCell ⟨b, 0, none⟩ (.int .u64 (e0 x))).setCell ⟨b, 1, none⟩ (.int .u64 (e1 x))).setCell ⟨b, 2, none⟩ (.int .u64 (e2 x))).setCell ⟨b, 3, none⟩ (.int .u64 (e3 x))).setCell ⟨b, 4, none⟩ (.int .u64 (e0 z))).setCell ⟨b, 5, none⟩ (.int .u64 (e1 z))).setCell ⟨b, 6, none⟩ (.int .u64 (e2 z))).setCell ⟨b, 7, none⟩ (.int .u64 (e3 z))) b x z := by
 obtain ⟨⟨x0, h0⟩, ⟨x1, h1⟩, ⟨x2, h2⟩, ⟨x3, h3⟩, ⟨x4, h4⟩, ⟨x5, h5⟩, ⟨x6, h6⟩, ⟨x7, h7⟩, f0, f1, f2, f3, f4, f5, f6, f7⟩ := h
 exact ⟨by simp [go_sem, h0], by simp [go_sem, h1], by simp [go_sem, h2], by simp [go_sem, h3], by simp [go_sem, h4], by simp [go_sem, h5], by simp [go_sem, h6], by simp [go_sem, h7]⟩
theorem fo_set (u : World) (b : Nat) (x z : Int) (h : Fo u b) : Fo ((((((((u.setCell ⟨b, 0, none⟩ (.int .u64 (e0 x))).setCell ⟨b, 1, none⟩ (.int .u64 (e1 x))).setCell ⟨b, 2, none⟩ (.int .u64 (e2 x))).setCell ⟨b, 3, none⟩ (.int .u64 (e3 x))).setCell ⟨b, 4, none⟩ (.int .u64 (e0 z))).setCell ⟨b, 5, none⟩ (.int .u64 (e1 z))).setCell ⟨b, 6, none⟩ (.int .u64 (e2 z))).setCell ⟨b, 7, none⟩ (.int .u64 (e3 z))) b := by
 obtain ⟨⟨x0, h0⟩, ⟨x1, h1⟩, ⟨x2, h2⟩, ⟨x3, h3⟩, ⟨x4, h4⟩, ⟨x5, h5⟩, ⟨x6, h6⟩, ⟨x7, h7⟩, f0, f1, f2, f3, f4, f5, f6, f7⟩ := h
 exact ⟨⟨_, by simp [go_sem, h0]; rfl⟩, ⟨_, by simp [go_sem, h1]; rfl⟩, ⟨_, by simp [go_sem, h2]; rfl⟩, ⟨_, by simp [go_sem, h3]; rfl⟩, ⟨_, by simp [go_sem, h4]; rfl⟩, ⟨_, by simp [go_sem, h5]; rfl⟩, ⟨_, by simp [go_sem, h6]; rfl⟩, ⟨_, by simp [go_sem, h7]; rfl⟩, by simp [go_sem, f0], by simp [go_sem, f1], by simp [go_sem, f2], by simp [go_sem, f3], by simp [go_sem, f4], by simp [go_sem, f5], by simp [go_sem, f6], by simp [go_sem, f7]⟩
theorem fr_o8 {u : World} {b c : Nat} {x z : Int} (h : Fr u b x z) (hne : b ≠ c) (v0 v1 v2 v3 v4 v5 v6 v7 : Value) : Fr ((((((((u.setCell ⟨c, 0, none⟩ (v0)).setCell ⟨c, 1, none⟩ (v1)).setCell ⟨c, 2, none⟩ (v2)).setCell ⟨c, 3, none⟩ (v3)).setCell ⟨c, 4, none⟩ (v4)).setCell ⟨c, 5, none⟩ (v5)).setCell ⟨c, 6, none⟩ (v6)).setCell ⟨c, 7, none⟩ (v7)) b x z := by
 obtain ⟨h0, h1, h2, h3, h4, h5, h6, h7⟩ := h
 have hb : c ≠ b := fun e => hne e.symm
 exact ⟨by simp [go_sem, h0], by simp [go_sem, h1], by simp [go_sem, h2], by simp [go_sem, h3], by simp [go_sem, h4], by simp [go_sem, h5], by simp [go_sem, h6], by simp [go_sem, h7]⟩
theorem fo_o8 {u : World} {b c : Nat} (h : Fo u b) (hne : b ≠ c) (v0 v1 v2 v3 v4 v5 v6 v7 : Value) : Fo ((((((((u.setCell ⟨c, 0, none⟩ (v0)).setCell ⟨c, 1, none⟩ (v1)).setCell ⟨c, 2, none⟩ (v2)).setCell ⟨c, 3, none⟩ (v3)).setCell ⟨c, 4, none⟩ (v4)).setCell ⟨c, 5, none⟩ (v5)).setCell ⟨c, 6, none⟩ (v6)).setCell ⟨c, 7, none⟩ (v7)) b := by
 obtain ⟨⟨x0, h0⟩, ⟨x1, h1⟩, ⟨x2, h2⟩, ⟨x3, h3⟩, ⟨x4, h4⟩, ⟨x5, h5⟩, ⟨x6, h6⟩, ⟨x7, h7⟩, f0, f1, f2, f3, f4, f5, f6, f7⟩ := h
 have hb : c ≠ b := fun e => hne e.symm
 exact ⟨⟨x0, by simp [go_sem, h0]⟩, ⟨x1, by simp [go_sem, h1]⟩, ⟨x2, by simp [go_sem, h2]⟩, ⟨x3, by simp [go_sem, h3]⟩, ⟨x4, by simp [go_sem, h4]⟩, ⟨x5, by simp [go_sem, h5]⟩, ⟨x6, by simp [go_sem, h6]⟩, ⟨x7, by simp [go_sem, h7]⟩, by simp [go_sem, f0], by simp [go_sem, f1], by simp [go_sem, f2], by simp [go_sem, f3], by simp [go_sem, f4], by simp [go_sem, f5], by simp [go_sem, f6], by simp [go_sem, f7]⟩
theorem var_o8 {u : World} {b c : Nat} {v : Int} (h : Var u b v) (hne : b ≠ c) (v0 v1 v2 v3 v4 v5 v6 v7 : Value) : Var ((((((((u.setCell ⟨c, 0, none⟩ (v0)).setCell ⟨c, 1, none⟩ (v1)).setCell ⟨c, 2, none⟩ (v2)).setCell ⟨c, 3, none⟩ (v3)).setCell ⟨c, 4, none⟩ (v4)).setCell ⟨c, 5, none⟩ (v5)).setCell ⟨c, 6, none⟩ (v6)).setCell ⟨c, 7, none⟩ (v7)) b v := by
 obtain ⟨h0, h1, h2, h3⟩ := h
 have hb : c ≠ b := fun e => hne e.symm
 exact ⟨by simp [go_sem, h0], by simp [go_sem, h1], by simp [go_sem, h2], by simp [go_sem, h3]⟩
theorem arr_o8 {u : World} {b c : Nat} {cs : List Value} (h : Arr u b cs) (hne : b ≠ c) (v0 v1 v2 v3 v4 v5 v6 v7 : Value) : Arr ((((((((u.setCell ⟨c, 0, none⟩ (v0)).setCell ⟨c, 1, none⟩ (v1)).setCell ⟨c, 2, none⟩ (v2)).setCell ⟨c, 3, none⟩ (v3)).setCell ⟨c, 4, none⟩ (v4)).setCell ⟨c, 5, none⟩ (v5)).setCell ⟨c, 6, none⟩ (v6)).setCell ⟨c, 7, none⟩ (v7)) b cs :=
 ⟨range_else (range_else (range_else (range_else (range_else (range_else (range_else (range_else h.rng hne _) hne _) hne _) hne _) hne _) hne _) hne _) hne _, there_set (there_set (there_set (there_set (there_set (there_set (there_set (there_set h.all _ _ _) _ _ _) _ _ _) _ _ _) _ _ _) _ _ _) _ _ _) _ _ _⟩
theorem below_set8 {B : Nat} {a u : World} (h : Below B a u) (n : Nat) (hn : B ≤ n) (v0 v1 v2 v3 v4 v5 v6 v7 : Value) : Below B a ((((((((u.setCell ⟨n, 0, none⟩ (v0)).setCell ⟨n, 1, none⟩ (v1)).setCell ⟨n, 2, none⟩ (v2)).setCell ⟨n, 3, none⟩ (v3)).setCell ⟨n, 4, none⟩ (v4)).setCell ⟨n, 5, none⟩ (v5)).setCell ⟨n, 6, none⟩ (v6)).setCell ⟨n, 7, none⟩ (v7)) :=
 (((((((h.setCell (p := ⟨n, 0, none⟩) hn _).setCell (p := ⟨n, 1, none⟩) hn _).setCell (p := ⟨n, 2, none⟩) hn _).setCell (p := ⟨n, 3, none⟩) hn _).setCell (p := ⟨n, 4, none⟩) hn _).setCell (p := ⟨n, 5, none⟩) hn _).setCell (p := ⟨n, 6, none⟩) hn _).setCell (p := ⟨n, 7, none⟩) hn _
theorem fr_o4 {u : World} {b c : Nat} {x z : Int} (h : Fr u b x z) (hne : b ≠ c) (v0 v1 v2 v3 : Value) : Fr ((((u.setCell ⟨c, 0, none⟩ (v0)).setCell ⟨c, 1, none⟩ (v1)).setCell ⟨c, 2, none⟩ (v2)).setCell ⟨c, 3, none⟩ (v3)) b x z := by
 obtain ⟨h0, h1, h2, h3, h4, h5, h6, h7⟩ := h
 have hb : c ≠ b := fun e => hne e.symm
 exact ⟨by simp [go_sem, h0], by simp [go_sem, h1], by simp [go_sem, h2], by simp [go_sem, h3], by simp [go_sem, h4], by simp [go_sem, h5], by simp [go_sem, h6], by simp [go_sem, h7]⟩
theorem fo_o4 {u : World} {b c : Nat} (h : Fo u b) (hne : b ≠ c) (v0 v1 v2 v3 : Value) : Fo ((((u.setCell ⟨c, 0, none⟩ (v0)).setCell ⟨c, 1, none⟩ (v1)).setCell ⟨c, 2, none⟩ (v2)).setCell ⟨c, 3, none⟩ (v3)) b := by
 obtain ⟨⟨x0, h0⟩, ⟨x1, h1⟩, ⟨x2, h2⟩, ⟨x3, h3⟩, ⟨x4, h4⟩, ⟨x5, h5⟩, ⟨x6, h6⟩, ⟨x7, h7⟩, f0, f1, f2, f3, f4, f5, f6, f7⟩ := h
 have hb : c ≠ b := fun e => hne e.symm
 exact ⟨⟨x0, by simp [go_sem, h0]⟩, ⟨x1, by simp [go_sem, h1]⟩, ⟨x2, by simp [go_sem, h2]⟩, ⟨x3, by simp [go_sem, h3]⟩, ⟨x4, by simp [go_sem, h4]⟩, ⟨x5, by simp [go_sem, h5]⟩, ⟨x6, by simp [go_sem, h6]⟩, ⟨x7, by simp [go_sem, h7]⟩, by simp [go_sem, f0], by simp [go_sem, f1], by simp [go_sem, f2], by simp [go_sem, f3], by simp [go_sem, f4], by simp [go_sem, f5], by simp [go_sem, f6], by simp [go_sem, f7]⟩

/-- Nothing that was there has turned, but for the blocks of a list. -/
structure ExtL (bs : List Nat) (w w' : World) : Prop where
 os : w'.os = w.os
 tape : w'.tape = w.tape
 output : w'.output = w.output
 size : w.heap.size ≤ w'.heap.size
 block : ∀ k, k < w.heap.size → k ∉ bs → w'.heap[k]? = w.heap[k]?
theorem ExtL.refl (bs : List Nat) (w : World) : ExtL bs w w := ⟨rfl, rfl, rfl, Nat.le_refl _, fun _ _ _ => rfl⟩
theorem ExtL.trans {bs : List Nat} {a u v : World} (h : ExtL bs a u) (k : Below u.heap.size u v) : ExtL bs a v :=
 ⟨k.os.trans h.os, k.tape.trans h.tape, k.output.trans h.output, Nat.le_trans h.size k.size, fun i hi hb => (k.block i (Nat.lt_of_lt_of_le hi h.size)).trans (h.block i hi hb)⟩
theorem ExtL.drew {bs : List Nat} {a u : World} (h : ExtL bs a u) : ExtL bs a u.drew := ⟨h.os, h.tape, h.output, h.size, h.block⟩
theorem ExtL.set {bs : List Nat} {a u : World} (h : ExtL bs a u) {b : Nat} (hb : b ∈ bs) (o : Nat) (x : Value) : ExtL bs a (u.setCell ⟨b, o, none⟩ x) :=
 ⟨h.os, h.tape, h.output, by simpa using h.size, fun k hk hn => by rw [Below.heap_setCell _ _ _ _ (fun e => hn (by simp only at e; exact e ▸ hb))]; exact h.block k hk hn⟩
theorem ExtL.cell {bs : List Nat} {a u : World} (h : ExtL bs a u) {k o : Nat} {v : Value} (hk : k ∉ bs) (hc : a.cell? ⟨k, o, none⟩ = some v) : u.cell? ⟨k, o, none⟩ = some v := by
 rw [World.cell?_of_block (w := a) (h.block k (World.block_lt_of_cell? a _ hc) hk)]
 exact hc
theorem ExtL.below {bs : List Nat} {w a u : World} (h : ExtL bs a u) (k : Below w.heap.size w a) (hb : ∀ b ∈ bs, w.heap.size ≤ b) : Below w.heap.size w u :=
 ⟨h.os.trans k.os, h.tape.trans k.tape, h.output.trans k.output, Nat.le_trans k.size h.size, fun i hi => (h.block i (Nat.lt_of_lt_of_le hi k.size) (fun m => absurd (hb i m) (by omega))).trans (k.block i hi)⟩
theorem ExtL.set8 {bs : List Nat} {a u : World} (h : ExtL bs a u) {b : Nat} (hb : b ∈ bs) (v0 v1 v2 v3 v4 v5 v6 v7 : Value) : ExtL bs a ((((((((u.setCell ⟨b, 0, none⟩ (v0)).setCell ⟨b, 1, none⟩ (v1)).setCell ⟨b, 2, none⟩ (v2)).setCell ⟨b, 3, none⟩ (v3)).setCell ⟨b, 4, none⟩ (v4)).setCell ⟨b, 5, none⟩ (v5)).setCell ⟨b, 6, none⟩ (v6)).setCell ⟨b, 7, none⟩ (v7)) :=
 (((((((h.set hb _ _).set hb _ _).set hb _ _).set hb _ _).set hb _ _).set hb _ _).set hb _ _).set hb _ _
end Go.Proofs.YtlnbjehimabaiaaGreatDoor.Fc
/-
 What curve's square does. No statement of the seat is proved here.
-/
namespace Go.Proofs.YtlnbjehimabaiaaGreatDoor.Fc
open Go.RowKit
set_option maxRecDepth 8000

set_option maxHeartbeats 1000000 in
theorem square_e (x : Int) (hx : El x) (w : World) :
  Calls Tryz.prog 97 #[(.agg (ea x))] w fun e w' => ∃ z, e = .returned (.agg (ea z)) ∧ El z ∧ Hid (z = x * x % 57896044618658097711785492504343953926634992332820282019728792003956564819949) ∧ Below w.heap.size w w' := by
 go_enter Tryz.func97, Tryz.ntmps97
 go_wp2_with fail
 refine (mul_e x x hx hx _).mono ?_
 rintro e w1 ⟨z, rfl, hz, HZ, hb⟩
 have HB : Hid (Below w.heap.size w w1) := (bel2 _ _ _).trans (hb.mono (by simp; omega))
 have dc0' : w1.cell? ⟨w.heap.size + 1, 0, none⟩ = some (.int .u64 0) := cell_later hb (by simp [go_sem])
 have df0' : w1.frozen? ⟨w.heap.size + 1, 0, none⟩ = false := froz_later hb (by first | omega | (simp <;> omega)) (by simp [go_sem])
 have dc1' : w1.cell? ⟨w.heap.size + 1, 1, none⟩ = some (.int .u64 0) := cell_later hb (by simp [go_sem])
 have df1' : w1.frozen? ⟨w.heap.size + 1, 1, none⟩ = false := froz_later hb (by first | omega | (simp <;> omega)) (by simp [go_sem])
 have dc2' : w1.cell? ⟨w.heap.size + 1, 2, none⟩ = some (.int .u64 0) := cell_later hb (by simp [go_sem])
 have df2' : w1.frozen? ⟨w.heap.size + 1, 2, none⟩ = false := froz_later hb (by first | omega | (simp <;> omega)) (by simp [go_sem])
 have dc3' : w1.cell? ⟨w.heap.size + 1, 3, none⟩ = some (.int .u64 0) := cell_later hb (by simp [go_sem])
 have df3' : w1.frozen? ⟨w.heap.size + 1, 3, none⟩ = false := froz_later hb (by first | omega | (simp <;> omega)) (by simp [go_sem])
 clear hb
 have dc0 := dc0'
 have df0 := df0'
 have dc1 := dc1'
 have df1 := df1'
 have dc2 := dc2'
 have df2 := df2'
 have dc3 := dc3'
 have df3 := df3'
 clear dc0' df0' dc1' df1' dc2' df2' dc3' df3'
 go_wp2
 refine bodyPost_ret (v := (.agg (ea z))) (by simp [results, Tryz.results97, go_sem, dc0, dc1, dc2, dc3]) rfl ⟨_, rfl, hz, HZ, ?_⟩
 exact ((((HB.out.setCell (by dsimp only; omega) _).setCell (by dsimp only; omega) _).setCell (by dsimp only; omega) _).setCell (by dsimp only; omega) _)
end Go.Proofs.YtlnbjehimabaiaaGreatDoor.Fc
/-
 What curve's doubled does. No statement of the seat is proved here.
-/
namespace Go.Proofs.YtlnbjehimabaiaaGreatDoor.Fc
open Go.RowKit
set_option maxRecDepth 8000

/-- Sums, differences, products of the field. -/
def fa (x y : Int) : Int := (x + y) % 57896044618658097711785492504343953926634992332820282019728792003956564819949
def fs (x y : Int) : Int := (x - y) % 57896044618658097711785492504343953926634992332820282019728792003956564819949
def fm (x y : Int) : Int := x * y % 57896044618658097711785492504343953926634992332820282019728792003956564819949
def dbz (x y : Int) : Int := fm (fs x y) (fa x (fm (fs x y) 121665))

set_option maxHeartbeats 2000000 in
theorem doubled_e (x y : Int) (hx : El x) (hy : El y) (w : World) :
  Calls Tryz.prog 96 #[(.agg (ea x)), (.agg (ea y))] w fun e w' => ∃ zx zz, e = .returned (.agg #[.int .u64 (e0 zx), .int .u64 (e1 zx), .int .u64 (e2 zx), .int .u64 (e3 zx), .int .u64 (e0 zz), .int .u64 (e1 zz), .int .u64 (e2 zz), .int .u64 (e3 zz)]) ∧ El zx ∧ El zz ∧ Hid (zx = fm x y) ∧ Hid (zz = dbz x y) ∧ Below w.heap.size w w' := by
 go_enter Tryz.func96, Tryz.ntmps96
 go_upto_region 1 with fail
 have HB : Hid (Below w.heap.size w (((w.alloc (.cells (ea x) 101)).alloc (.cells (ea y) 101)).alloc (.cells #[.int .u64 0, .int .u64 0, .int .u64 0, .int .u64 0, .int .u64 0, .int .u64 0, .int .u64 0, .int .u64 0] 105))) := bel3 _ _ _ _
 have V2 : Hid (Var (((w.alloc (.cells (ea x) 101)).alloc (.cells (ea y) 101)).alloc (.cells #[.int .u64 0, .int .u64 0, .int .u64 0, .int .u64 0, .int .u64 0, .int .u64 0, .int .u64 0, .int .u64 0] 105)) (w.heap.size) x) := ⟨by simp [go_sem], by simp [go_sem], by simp [go_sem], by simp [go_sem]⟩
 have V3 : Hid (Var (((w.alloc (.cells (ea x) 101)).alloc (.cells (ea y) 101)).alloc (.cells #[.int .u64 0, .int .u64 0, .int .u64 0, .int .u64 0, .int .u64 0, .int .u64 0, .int .u64 0, .int .u64 0] 105)) (w.heap.size + 1) y) := ⟨by simp [go_sem], by simp [go_sem], by simp [go_sem], by simp [go_sem]⟩
 have O4 : Hid (Fo (((w.alloc (.cells (ea x) 101)).alloc (.cells (ea y) 101)).alloc (.cells #[.int .u64 0, .int .u64 0, .int .u64 0, .int .u64 0, .int .u64 0, .int .u64 0, .int .u64 0, .int .u64 0] 105)) (w.heap.size + 1 + 1)) := ⟨⟨_, by simp [go_sem]; rfl⟩, ⟨_, by simp [go_sem]; rfl⟩, ⟨_, by simp [go_sem]; rfl⟩, ⟨_, by simp [go_sem]; rfl⟩, ⟨_, by simp [go_sem]; rfl⟩, ⟨_, by simp [go_sem]; rfl⟩, ⟨_, by simp [go_sem]; rfl⟩, ⟨_, by simp [go_sem]; rfl⟩, by simp [go_sem], by simp [go_sem], by simp [go_sem], by simp [go_sem], by simp [go_sem], by simp [go_sem], by simp [go_sem], by simp [go_sem]⟩
 generalize ((w.alloc (.cells (ea x) 101)).alloc (.cells (ea y) 101)).alloc (.cells #[.int .u64 0, .int .u64 0, .int .u64 0, .int .u64 0, .int .u64 0, .int .u64 0, .int .u64 0, .int .u64 0] 105) = W0 at *
 have hq1 : w.heap.size < w.heap.size + 1 := by omega
 have hq2 : w.heap.size + 1 < w.heap.size + 1 + 1 := by omega
 have hw2 : w.heap.size ≤ w.heap.size + 1 + 1 := by omega
 have hw1 : w.heap.size ≤ w.heap.size + 1 := by omega
 have hw0 : w.heap.size ≤ w.heap.size := Nat.le_refl _
 generalize w.heap.size + 1 + 1 = q2 at *
 generalize w.heap.size + 1 = q1 at *
 obtain ⟨q0, hq0⟩ : ∃ q, q = w.heap.size := ⟨_, rfl⟩
 clear hq0 q0
 obtain ⟨V2c0, V2c1, V2c2, V2c3⟩ := V2.out
 obtain ⟨V3c0, V3c1, V3c2, V3c3⟩ := V3.out
 go_wp2_with fail
 refine (sub_e x y hx hy _).mono ?_
 rintro e u1_0 ⟨z8, rfl, hz8, Hz8, hb1_0⟩
 have hc1_1 : Hid (Below W0.heap.size W0 u1_0) := hb1_0
 clear hb1_0
 try clear V2c0 V2c1 V2c2 V2c3
 try clear V3c0 V3c1 V3c2 V3c3
 go_upto_region 2 with fail
 have hX : Hid (Below W0.heap.size W0 (u1_0.alloc (.cells (ea z8) 101))) := hc1_1.out.trans ((bel1 u1_0 _).mono hc1_1.out.size)
 have V5 : Hid (Var (u1_0.alloc (.cells (ea z8) 101)) (u1_0.heap.size) z8) := var_new u1_0 z8 _
 have hge5 : w.heap.size ≤ u1_0.heap.size := Nat.le_trans HB.out.size hc1_1.out.size
 have lt5_V2 : w.heap.size < u1_0.heap.size := (V2.out.later hc1_1.out).lt
 have lt5_V3 : q1 < u1_0.heap.size := (V3.out.later hc1_1.out).lt
 have lt5_O4 : q2 < u1_0.heap.size := (O4.out.later hc1_1.out).lt
 generalize u1_0.alloc (.cells (ea z8) 101) = W5 at *
 generalize u1_0.heap.size = b5 at *
 replace V2 := hidp (V2.out.later hX.out)
 replace V3 := hidp (V3.out.later hX.out)
 replace O4 := hidp (O4.out.later hX.out)
 replace HB := hidp (HB.out.trans (Below.mono hX.out HB.out.size))
 clear hX hc1_1
 obtain ⟨V2c0, V2c1, V2c2, V2c3⟩ := V2.out
 have V2u0 : ∀ u, ExtL [q2] W5 u → u.cell? ⟨w.heap.size, 0, none⟩ = some (.int .u64 (e0 x)) := fun u hu => hu.cell (by simp only [List.mem_cons, List.not_mem_nil, or_false]; omega) V2c0
 have V2u1 : ∀ u, ExtL [q2] W5 u → u.cell? ⟨w.heap.size, 1, none⟩ = some (.int .u64 (e1 x)) := fun u hu => hu.cell (by simp only [List.mem_cons, List.not_mem_nil, or_false]; omega) V2c1
 have V2u2 : ∀ u, ExtL [q2] W5 u → u.cell? ⟨w.heap.size, 2, none⟩ = some (.int .u64 (e2 x)) := fun u hu => hu.cell (by simp only [List.mem_cons, List.not_mem_nil, or_false]; omega) V2c2
 have V2u3 : ∀ u, ExtL [q2] W5 u → u.cell? ⟨w.heap.size, 3, none⟩ = some (.int .u64 (e3 x)) := fun u hu => hu.cell (by simp only [List.mem_cons, List.not_mem_nil, or_false]; omega) V2c3
 clear V2c0 V2c1 V2c2 V2c3
 obtain ⟨V3c0, V3c1, V3c2, V3c3⟩ := V3.out
 have V3u0 : ∀ u, ExtL [q2] W5 u → u.cell? ⟨q1, 0, none⟩ = some (.int .u64 (e0 y)) := fun u hu => hu.cell (by simp only [List.mem_cons, List.not_mem_nil, or_false]; omega) V3c0
 have V3u1 : ∀ u, ExtL [q2] W5 u → u.cell? ⟨q1, 1, none⟩ = some (.int .u64 (e1 y)) := fun u hu => hu.cell (by simp only [List.mem_cons, List.not_mem_nil, or_false]; omega) V3c1
 have V3u2 : ∀ u, ExtL [q2] W5 u → u.cell? ⟨q1, 2, none⟩ = some (.int .u64 (e2 y)) := fun u hu => hu.cell (by simp only [List.mem_cons, List.not_mem_nil, or_false]; omega) V3c2
 have V3u3 : ∀ u, ExtL [q2] W5 u → u.cell? ⟨q1, 3, none⟩ = some (.int .u64 (e3 y)) := fun u hu => hu.cell (by simp only [List.mem_cons, List.not_mem_nil, or_false]; omega) V3c3
 clear V3c0 V3c1 V3c2 V3c3
 obtain ⟨V5c0, V5c1, V5c2, V5c3⟩ := V5.out
 have V5u0 : ∀ u, ExtL [q2] W5 u → u.cell? ⟨b5, 0, none⟩ = some (.int .u64 (e0 z8)) := fun u hu => hu.cell (by simp only [List.mem_cons, List.not_mem_nil, or_false]; omega) V5c0
 have V5u1 : ∀ u, ExtL [q2] W5 u → u.cell? ⟨b5, 1, none⟩ = some (.int .u64 (e1 z8)) := fun u hu => hu.cell (by simp only [List.mem_cons, List.not_mem_nil, or_false]; omega) V5c1
 have V5u2 : ∀ u, ExtL [q2] W5 u → u.cell? ⟨b5, 2, none⟩ = some (.int .u64 (e2 z8)) := fun u hu => hu.cell (by simp only [List.mem_cons, List.not_mem_nil, or_false]; omega) V5c2
 have V5u3 : ∀ u, ExtL [q2] W5 u → u.cell? ⟨b5, 3, none⟩ = some (.int .u64 (e3 z8)) := fun u hu => hu.cell (by simp only [List.mem_cons, List.not_mem_nil, or_false]; omega) V5c3
 clear V5c0 V5c1 V5c2 V5c3
 refine wp_region_noPanic ?_
 refine wp_region_held_drew (S := ExtL [q2] W5) (by kernel_rfl) (ExtL.refl _ _).drew (fun hH => ?_)
 change wpAnyH _ _ _ _ _ _ #[false, false, false, false, false, false, false, false, false, false, false] _ _
 replace O4 : Hid (Fo W5.drew q2) := O4.out.later (Below.refl _ _).drew
 generalize W5.drew = y0 at *
 refine tn 0 ?_
 refine tn 1 ?_
 refine tn 3 ?_
 refine tn 4 ?_
 refine tn 5 ?_
 refine rdy 2 (fun K hK => ?_)
 go_simp
 refine (mul_e x y hx hy _).mono ?_
 rintro e c2_2 ⟨z11, rfl, hz11, Hz11, hb2_2⟩
 refine ko hK (hH.trans hb2_2) fun hH => ?_; clear hK K
 replace O4 := hidp (O4.out.later hb2_2)
 clear hb2_2
 refine rdy 6 (fun K hK => ?_)
 go_simp
 refine (small_e z8 121665 hz8 (by decide) _).mono ?_
 rintro e c2_6 ⟨z15, rfl, hz15, Hz15, hb2_6⟩
 refine ko hK (hH.trans hb2_6) fun hH => ?_; clear hK K
 replace O4 := hidp (O4.out.later hb2_6)
 clear hb2_6
 refine rdy 7 (fun K hK => ?_)
 go_simp
 refine (add_e x z15 hx hz15 _).mono ?_
 rintro e c2_7 ⟨z16, rfl, hz16, Hz16, hb2_7⟩
 refine ko hK (hH.trans hb2_7) fun hH => ?_; clear hK K
 replace O4 := hidp (O4.out.later hb2_7)
 clear hb2_7
 refine rdy 8 (fun K hK => ?_)
 go_simp
 refine (mul_e z8 z16 hz8 hz16 _).mono ?_
 rintro e c2_8 ⟨z17, rfl, hz17, Hz17, hb2_8⟩
 refine ko hK (hH.trans hb2_8) fun hH => ?_; clear hK K
 replace O4 := hidp (O4.out.later hb2_8)
 clear hb2_8
 refine tn 9 ?_
 obtain ⟨⟨_, nc0⟩, ⟨_, nc1⟩, ⟨_, nc2⟩, ⟨_, nc3⟩, ⟨_, nc4⟩, ⟨_, nc5⟩, ⟨_, nc6⟩, ⟨_, nc7⟩, nf0, nf1, nf2, nf3, nf4, nf5, nf6, nf7⟩ := O4.out
 refine rdy 10 (fun K hK => ?_)
 go_simp
 refine ko hK (hH.set8 (by simp) _ _ _ _ _ _ _ _) fun hH => ?_; clear hK K
 have R4 : Hid (Fr ((((((((c2_8.setCell ⟨q2, 0, none⟩ (.int .u64 (e0 z11))).setCell ⟨q2, 1, none⟩ (.int .u64 (e1 z11))).setCell ⟨q2, 2, none⟩ (.int .u64 (e2 z11))).setCell ⟨q2, 3, none⟩ (.int .u64 (e3 z11))).setCell ⟨q2, 4, none⟩ (.int .u64 (e0 z17))).setCell ⟨q2, 5, none⟩ (.int .u64 (e1 z17))).setCell ⟨q2, 6, none⟩ (.int .u64 (e2 z17))).setCell ⟨q2, 7, none⟩ (.int .u64 (e3 z17))) q2 z11 z17) := fr_set c2_8 q2 z11 z17 O4.out
 clear O4
 clear nc0 nf0 nc1 nf1 nc2 nf2 nc3 nf3 nc4 nf4 nc5 nf5 nc6 nf6 nc7 nf7
 generalize (((((((c2_8.setCell ⟨q2, 0, none⟩ (.int .u64 (e0 z11))).setCell ⟨q2, 1, none⟩ (.int .u64 (e1 z11))).setCell ⟨q2, 2, none⟩ (.int .u64 (e2 z11))).setCell ⟨q2, 3, none⟩ (.int .u64 (e3 z11))).setCell ⟨q2, 4, none⟩ (.int .u64 (e0 z17))).setCell ⟨q2, 5, none⟩ (.int .u64 (e1 z17))).setCell ⟨q2, 6, none⟩ (.int .u64 (e2 z17))).setCell ⟨q2, 7, none⟩ (.int .u64 (e3 z17)) = x2_10 at *
 refine wpAnyH_done (by kernel_rfl) ?_ _
 refine NoPanic.normal ?_
 obtain ⟨p4_0, p4_1, p4_2, p4_3, p4_4, p4_5, p4_6, p4_7⟩ := R4.out
 go_wp2
 refine bodyPost_ret (v := (.agg #[.int .u64 (e0 z11), .int .u64 (e1 z11), .int .u64 (e2 z11), .int .u64 (e3 z11), .int .u64 (e0 z17), .int .u64 (e1 z17), .int .u64 (e2 z17), .int .u64 (e3 z17)])) (by simp [results, Tryz.results96, go_sem, p4_0, p4_1, p4_2, p4_3, p4_4, p4_5, p4_6, p4_7]) rfl ⟨_, _, rfl, hz11, hz17, ?_, ?_, (hH.below HB.out (fun b hb => by simp only [List.mem_cons, List.not_mem_nil, or_false] at hb; omega))⟩
 ·exact Hz11
 ·unfold Hid dbz fm fa fs
  rw [Hz17.out, Hz16.out, Hz15.out, Hz8.out]
end Go.Proofs.YtlnbjehimabaiaaGreatDoor.Fc
