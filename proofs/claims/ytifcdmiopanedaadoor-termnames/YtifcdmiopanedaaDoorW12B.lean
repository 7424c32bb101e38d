/-
  Same of two terms; blocks. No statement of the seat is proved here.
-/
import Derived.Test.YtifcdmiopanedaaDoorTKn
import Derived.Test.YtifcdmiopanedaaDoorTSz
import Derived.Test.YtifcdmiopanedaaDoorTTs
import Derived.Test.YtifcdmiopanedaaDoorTName
namespace Go.Proofs.YtifcdmiopanedaaDoor
open Go.RowKit
set_option linter.unusedVariables false
set_option linter.unusedSimpArgs false

theorem Blk.lat {q : Nat} {ty : TypeId} {cs : List Value} {w u : World} (h : Blk q ty cs w) (hb : Below w.heap.size w u) : Blk q ty cs u := (hb.block q (Array.getElem?_eq_some_iff.1 h).1).trans h
theorem Blk.rng {q : Nat} {ty : TypeId} {cs : List Value} {w : World} (h : Blk q ty cs w) : w.rangeAt q 0 cs := fun j v hv => by
  rw [Nat.zero_add]; exact h.cell hv
theorem IsName.pos {l : List UInt8} (h : IsName l) : 0 < l.length :=
  h (fun l => 0 < l.length) (by decide) (by decide) (fun _ => by simp) (fun _ => by simp) (fun _ _ => by unfold shN; simp) (fun _ _ _ _ _ => by unfold chN; simp) (fun _ _ _ _ => by unfold dgN; simp) (fun _ _ _ _ _ _ _ => by unfold bxN; simp)
/-- Same of two terms, by their names. -/
theorem same_t {t1 : TypeId} {v1 : Value} {l1 : List UInt8} {s1 : Nat} {t2 : TypeId} {v2 : Value} {l2 : List UInt8} {s2 : Nat} (h1 : Tm t1 v1 l1 s1) (h2 : Tm t2 v2 l2 s2) (q1 : s1 ≤ 1000) (q2 : s2 ≤ 1000) (b : Bool) (hb : (l1 == l2) = b) :
    Hid (∀ w, Gt w → Calls Tryd.prog 13 #[.iface t1 v1, .iface t2 v2] w fun e u => e = .returned (.bool b) ∧ Below w.heap.size w u) := fun w hw => by
  have h := same_c h1.wrote h2.wrote h1.isName.pos h2.isName.pos (by have := h1.len.2; omega) (by have := h2.len.2; omega) w hw
  rw [hb] at h; exact h
theorem ne_of_apart {l1 l2 : List UInt8} (h : l1 ≠ l2) : (l1 == l2) = false := by simpa using h
theorem beq_of_iff {l1 l2 x y : List UInt8} (h : l1 = l2 ↔ x = y) : (l1 == l2) = (x == y) := by
  rw [Bool.eq_iff_iff, beq_iff_eq, beq_iff_eq]; exact h
end Go.Proofs.YtifcdmiopanedaaDoor
