/-
  What field's Invert does: the power p - 2, for whatever number below p. No statement of the seat is proved here.
-/
import Derived.Test.YtdjcjflcdjdkbaaDoorFSq
namespace Go.Proofs.YtdjcjflcdjdkbaaDoor
open Go.RowKit

/-- A variable of its own in memory that holds a number. -/
structure Var (u : World) (b : Nat) (v : Int) : Prop where
  c0 : u.cell? ⟨b, 0, none⟩ = some (.int .u64 (e0 v))
  c1 : u.cell? ⟨b, 1, none⟩ = some (.int .u64 (e1 v))
  c2 : u.cell? ⟨b, 2, none⟩ = some (.int .u64 (e2 v))
  c3 : u.cell? ⟨b, 3, none⟩ = some (.int .u64 (e3 v))
theorem Var.later {u u' : World} {b : Nat} {v : Int} (h : Var u b v) (hb : Below u.heap.size u u') : Var u' b v := ⟨cell_later hb h.c0, cell_later hb h.c1, cell_later hb h.c2, cell_later hb h.c3⟩
/-- A variable that may be written. -/
structure Own (u : World) (b : Nat) : Prop where
  c0 : ∃ x, u.cell? ⟨b, 0, none⟩ = some x
  c1 : ∃ x, u.cell? ⟨b, 1, none⟩ = some x
  c2 : ∃ x, u.cell? ⟨b, 2, none⟩ = some x
  c3 : ∃ x, u.cell? ⟨b, 3, none⟩ = some x
  f0 : u.frozen? ⟨b, 0, none⟩ = false
  f1 : u.frozen? ⟨b, 1, none⟩ = false
  f2 : u.frozen? ⟨b, 2, none⟩ = false
  f3 : u.frozen? ⟨b, 3, none⟩ = false
theorem Own.lt {u : World} {b : Nat} (h : Own u b) : b < u.heap.size := by
  obtain ⟨x, hx⟩ := h.c0
  exact World.block_lt_of_cell? u _ hx
theorem Own.later {u u' : World} {b : Nat} (h : Own u b) (hb : Below u.heap.size u u') : Own u' b :=
  ⟨h.c0.elim fun x hx => ⟨x, cell_later hb hx⟩, h.c1.elim fun x hx => ⟨x, cell_later hb hx⟩, h.c2.elim fun x hx => ⟨x, cell_later hb hx⟩, h.c3.elim fun x hx => ⟨x, cell_later hb hx⟩,
    froz_later hb h.lt h.f0, froz_later hb h.lt h.f1, froz_later hb h.lt h.f2, froz_later hb h.lt h.f3⟩
theorem own_new (u : World) (x0 x1 x2 x3 : Value) (t : TypeId) : Own (u.alloc (.cells #[x0, x1, x2, x3] t)) u.heap.size :=
  ⟨⟨x0, by simp [go_sem]⟩, ⟨x1, by simp [go_sem]⟩, ⟨x2, by simp [go_sem]⟩, ⟨x3, by simp [go_sem]⟩, by simp [go_sem], by simp [go_sem], by simp [go_sem], by simp [go_sem]⟩
theorem var_new (u : World) (v : Int) (t : TypeId) : Var (u.alloc (.cells #[.int .u64 (e0 v), .int .u64 (e1 v), .int .u64 (e2 v), .int .u64 (e3 v)] t)) u.heap.size v :=
  ⟨by simp [go_sem], by simp [go_sem], by simp [go_sem], by simp [go_sem]⟩
theorem var_set (u : World) (b : Nat) (v : Int) (h : Own u b) : Var ((((u.setCell ⟨b, 0, none⟩ (.int .u64 (e0 v))).setCell ⟨b, 1, none⟩ (.int .u64 (e1 v))).setCell ⟨b, 2, none⟩ (.int .u64 (e2 v))).setCell ⟨b, 3, none⟩ (.int .u64 (e3 v))) b v := by
  obtain ⟨⟨x0, h0⟩, ⟨x1, h1⟩, ⟨x2, h2⟩, ⟨x3, h3⟩, _⟩ := h
  exact ⟨by simp [go_sem, h0], by simp [go_sem, h1], by simp [go_sem, h2], by simp [go_sem, h3]⟩

theorem ExtB.set4 {b : Nat} {a u : World} (h : ExtB b a u) (n : Nat) (hn : a.heap.size ≤ n) (v0 v1 v2 v3 : Value) : ExtB b a ((((u.setCell ⟨n, 0, none⟩ v0).setCell ⟨n, 1, none⟩ v1).setCell ⟨n, 2, none⟩ v2).setCell ⟨n, 3, none⟩ v3) :=
  (((h.setNew _ hn _).setNew _ hn _).setNew _ hn _).setNew _ hn _
theorem below_set4 {B : Nat} {a u : World} (h : Below B a u) (n : Nat) (hn : B ≤ n) (v0 v1 v2 v3 : Value) : Below B a ((((u.setCell ⟨n, 0, none⟩ v0).setCell ⟨n, 1, none⟩ v1).setCell ⟨n, 2, none⟩ v2).setCell ⟨n, 3, none⟩ v3) :=
  (((h.setCell (p := ⟨n, 0, none⟩) hn _).setCell (p := ⟨n, 1, none⟩) hn _).setCell (p := ⟨n, 2, none⟩) hn _).setCell (p := ⟨n, 3, none⟩) hn _

end Go.Proofs.YtdjcjflcdjdkbaaDoor
