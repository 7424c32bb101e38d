/-
  What the law's own 'known' does: chapter 4's example holds. No statement of the seat is proved here.
-/
import Derived.Test.YtjmdgmbkkkoamaaQDown
namespace Go.Proofs.Ytjmdgmbkkkoamaa
open Go.RowKit

theorem q4_known : q4 286331153 16909060 2609737539 19088743 = (3928658676, 3407673550, 1166100270, 1484899515) := by decide +kernel
end Go.Proofs.Ytjmdgmbkkkoamaa
