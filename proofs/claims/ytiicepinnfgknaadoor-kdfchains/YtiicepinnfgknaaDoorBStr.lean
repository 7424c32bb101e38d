/-
  BLAKE2s of a text that comes in pieces: what has been pressed in of it, and what waits. No statement of the seat is proved here.
-/
import Derived.Test.YtiicepinnfgknaaDoorBMath
namespace Go.Proofs.YtiicepinnfgknaaDoor
open Go.RowKit

/-- The first k blocks pressed in, none of them the last. -/
def hb7 (text : List Int) : Nat → List Int
  | 0 => h07
  | k + 1 => pr7 (hb7 text k) ((text.drop (64 * k)).take 64) ((64 * (k + 1) : Nat) : Int) false
/-- How many are pressed in before the last one is known. -/
def kb7 (n : Nat) : Nat := (n - 1) / 64
def pad7 (l : List Int) : List Int := l ++ List.replicate (64 - l.length) 0
/-- The last block pressed in, and the words as bytes. -/
def fin7 (h buf : List Int) (n : Nat) : List Int := ou7 (pr7 h (pad7 buf) (n : Int) true) 8
theorem hb7_app (a b : List Int) : ∀ k, 64 * k ≤ a.length → hb7 (a ++ b) k = hb7 a k
  | 0, _ => rfl
  | k + 1, h => by
    rw [hb7, hb7, hb7_app a b k (by omega), List.drop_append_of_le_length (by omega), List.take_append_of_le_length (by rw [List.length_drop]; omega)]
theorem bl7_eq (text : List Int) : ∀ (n j : Nat), text.length ≤ 64 * j + 64 * n → (j = 0 ∨ 64 * j < text.length) → 0 < n →
    bl7 n (hb7 text j) ((64 * j : Nat) : Int) (text.drop (64 * j)) = pr7 (hb7 text (kb7 text.length)) (pad7 (text.drop (64 * kb7 text.length))) (text.length : Int) true
  | 0, _, _, _, h => by omega
  | n + 1, j, hn, hj, _ => by
    rw [bl7, List.length_drop]
    by_cases h : text.length - 64 * j ≤ 64
    · have e : kb7 text.length = j := by unfold kb7; omega
      rw [if_pos h, e]
      unfold pad7
      rw [List.length_drop]
      congr 1
      omega
    · rw [if_neg h]
      have hn1 : 0 < n := by omega
      have := bl7_eq text n (j + 1) (by omega) (.inr (by omega)) hn1
      rw [hb7] at this
      rw [← this, List.drop_drop, show 64 * j + 64 = 64 * (j + 1) by omega, show ((64 * j : Nat) : Int) + 64 = ((64 * (j + 1) : Nat) : Int) by omega]
theorem sum7_eq (text : List Int) : sum7 text = fin7 (hb7 text (kb7 text.length)) (text.drop (64 * kb7 text.length)) text.length := by
  unfold sum7 fin7
  have := bl7_eq text (text.length + 1) 0 (by omega) (.inl rfl) (by omega)
  rw [List.drop_zero] at this
  rw [← this]
  rfl
end Go.Proofs.YtiicepinnfgknaaDoor
