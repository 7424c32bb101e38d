/-
  A region whose order is drawn, walked once: what is held of the world is that nothing has turned but one block. No statement of the seat is proved here.
-/
import Derived.Test.YtggjifpcoidipaaDoorFRed
import Derived.Deep.RegionHeld3
namespace Go.Proofs.YtggjifpcoidipaaDoor
open Go.RowKit

/-- Nothing that was there has turned, but for the block b. -/
structure ExtB (b : Nat) (w w' : World) : Prop where
  os : w'.os = w.os
  tape : w'.tape = w.tape
  output : w'.output = w.output
  size : w.heap.size ≤ w'.heap.size
  block : ∀ k, k < w.heap.size → k ≠ b → w'.heap[k]? = w.heap[k]?
theorem ExtB.refl (b : Nat) (w : World) : ExtB b w w := ⟨rfl, rfl, rfl, Nat.le_refl _, fun _ _ _ => rfl⟩
theorem ExtB.trans {b : Nat} {a u v : World} (h : ExtB b a u) (k : Below u.heap.size u v) : ExtB b a v :=
  ⟨k.os.trans h.os, k.tape.trans h.tape, k.output.trans h.output, Nat.le_trans h.size k.size, fun i hi hb => (k.block i (Nat.lt_of_lt_of_le hi h.size)).trans (h.block i hi hb)⟩
theorem ExtB.drew {b : Nat} {a u : World} (h : ExtB b a u) : ExtB b a u.drew := ⟨h.os, h.tape, h.output, h.size, h.block⟩
theorem ExtB.alloc {b : Nat} {a u : World} (h : ExtB b a u) (o : Obj) : ExtB b a (u.alloc o) := h.trans (bel1 u o)
theorem ExtB.set {b : Nat} {a u : World} (h : ExtB b a u) (o : Nat) (x : Value) : ExtB b a (u.setCell ⟨b, o, none⟩ x) :=
  ⟨h.os, h.tape, h.output, by simpa using h.size, fun k hk hb => by rw [Below.heap_setCell _ _ _ _ hb]; exact h.block k hk hb⟩
theorem ExtB.setNew {b : Nat} {a u : World} (h : ExtB b a u) (p : Addr) (hp : a.heap.size ≤ p.block) (x : Value) : ExtB b a (u.setCell p x) :=
  ⟨h.os, h.tape, h.output, by simpa using h.size, fun k hk hb => by rw [Below.heap_setCell _ _ _ _ (by omega)]; exact h.block k hk hb⟩
theorem ExtB.cell {b : Nat} {a u : World} (h : ExtB b a u) {k o : Nat} {v : Value} (hk : k ≠ b) (hc : a.cell? ⟨k, o, none⟩ = some v) : u.cell? ⟨k, o, none⟩ = some v := by
  rw [World.cell?_of_block (w := a) (h.block k (World.block_lt_of_cell? a _ hc) hk)]
  exact hc
theorem ExtB.below {b : Nat} {w a u : World} (h : ExtB b a u) (k : Below w.heap.size w a) (hb : w.heap.size ≤ b) : Below w.heap.size w u :=
  ⟨h.os.trans k.os, h.tape.trans k.tape, h.output.trans k.output, Nat.le_trans k.size h.size, fun i hi => (h.block i (Nat.lt_of_lt_of_le hi k.size) (by omega)).trans (k.block i hi)⟩
end Go.Proofs.YtggjifpcoidipaaDoor
