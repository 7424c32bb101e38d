/-
  What the law's own 'known' does: chapter 4's example holds. No statement of the seat is proved here.
-/
import Derived.Test.YtiijnghlllapoaaDoorQDown
namespace Go.Proofs.YtiijnghlllapoaaDoor
open Go.RowKit

theorem q4_known : q4 286331153 16909060 2609737539 19088743 = (3928658676, 3407673550, 1166100270, 1484899515) := by decide +kernel
theorem known4_any (w : World) : Calls Tryd.prog 7 #[] w fun e w' => e = .returned (.bool true) ∧ Below w.heap.size w w' := by
  go_enter Tryd.func7, Tryd.ntmps7
  go_wp2_with fail
  refine (quarter_c _ _ _ _ ⟨by decide, by decide⟩ ⟨by decide, by decide⟩ ⟨by decide, by decide⟩ ⟨by decide, by decide⟩ _).mono ?_
  rintro e w1 ⟨p, q, r, s, rfl, HQ, -, -, -, -, hb⟩
  have h := HQ.out
  rw [q4_known] at h
  clear HQ
  simp only [Prod.mk.injEq] at h
  obtain ⟨rfl, rfl, rfl, rfl⟩ := h
  go_wp2
  go_ret
  exact ⟨rfl, hb⟩
end Go.Proofs.YtiijnghlllapoaaDoor
