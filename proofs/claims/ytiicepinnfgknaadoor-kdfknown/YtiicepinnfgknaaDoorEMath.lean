/-
  HMAC over BLAKE2s and the keys that are derived, on lists. No statement of the seat is proved here.
-/
import Derived.Test.YtiicepinnfgknaaDoorBHx
namespace Go.Proofs.YtiicepinnfgknaaDoor
open Go.RowKit

/-- The key, filled up to a block: its sum where it is longer. -/
def kp8 (key : List Int) : List Int := pad7 (if 64 < key.length then sum7 key else key)
/-- Every byte with this mark. -/
def xm8 (x : Int) (l : List Int) : List Int := l.map fun a => bits .xor .u8 a x
def hm8 (key text : List Int) : List Int := sum7 (xm8 92 (kp8 key) ++ sum7 (xm8 54 (kp8 key) ++ text))
/-- The keys. -/
def dt8 (chain input : List Int) : List Int := hm8 chain input
def da8 (chain input : List Int) : List Int := hm8 (dt8 chain input) [1]
def db8 (chain input : List Int) : List Int := hm8 (dt8 chain input) (da8 chain input ++ [2])
def dc8 (chain input : List Int) : List Int := hm8 (dt8 chain input) (db8 chain input ++ [3])
def dv8 (chain input : List Int) (n : Int) : List (List Int) := if n = 2 then [da8 chain input, db8 chain input] else if n = 3 then [da8 chain input, db8 chain input, dc8 chain input] else []

theorem hm8_bn (key text : List Int) : Bn 32 (hm8 key text) := sum7_bn _
theorem kp8_in (key : List Int) : (if 64 < key.length then sum7 key else key).length ≤ 64 := by
  split
  · rw [(sum7_bn key).len]; decide
  · omega
theorem kp8_len (key : List Int) : (kp8 key).length = 64 := pad7_len (kp8_in key)
theorem kp8_byt {key : List Int} (h : Byt key) : Byt (kp8 key) := by
  unfold kp8 pad7
  refine Byt.app ?_ (byt_zero7 _)
  split
  · exact (sum7_bn key).byt
  · exact h
theorem kp8_bn {key : List Int} (h : Byt key) : Bn 64 (kp8 key) := ⟨kp8_len key, kp8_byt h⟩
theorem xm8_len (x : Int) (l : List Int) : (xm8 x l).length = l.length := List.length_map _
theorem xm8_byt {x : Int} (hx : 0 ≤ x ∧ x ≤ 255) {l : List Int} (h : Byt l) : Byt (xm8 x l) := fun y hy => by
  obtain ⟨a, ha, rfl⟩ := List.mem_map.1 hy
  have := xor8 a x (h a ha) hx
  exact ⟨this.1, this.2.1⟩
theorem xm8_at (x : Int) (l : List Int) (i : Nat) (hi : i < l.length) : (xm8 x l)[i]! = bits .xor .u8 l[i]! x := by
  rw [getElem!_pos _ i (by rw [xm8_len]; exact hi), getElem!_pos l i hi]
  unfold xm8
  rw [List.getElem_map]
/-- A key that is longer than a block counts as its sum. -/
theorem kp8_long {key : List Int} (h : 64 < key.length) : kp8 (sum7 key) = kp8 key := by
  unfold kp8
  rw [if_pos h, if_neg (by rw [(sum7_bn key).len]; decide)]
theorem hm8_long {key : List Int} (h : 64 < key.length) (text : List Int) : hm8 (sum7 key) text = hm8 key text := by
  unfold hm8
  rw [kp8_long h]
/-- Noughts behind a key, up to a block, count for nothing. -/
theorem kp8_zeros (key : List Int) (z : Nat) (h : key.length + z ≤ 64) : kp8 (key ++ List.replicate z 0) = kp8 key := by
  unfold kp8
  rw [if_neg (by rw [List.length_append, List.length_replicate]; omega), if_neg (by omega)]
  unfold pad7
  rw [List.length_append, List.length_replicate, List.append_assoc, List.replicate_append_replicate]
  congr 2
  omega
theorem hm8_zeros (key : List Int) (z : Nat) (h : key.length + z ≤ 64) (text : List Int) : hm8 (key ++ List.replicate z 0) text = hm8 key text := by
  unfold hm8
  rw [kp8_zeros key z h]
theorem dv8_len2 (chain input : List Int) : (dv8 chain input 2).length = 2 := rfl
theorem dv8_len3 (chain input : List Int) : (dv8 chain input 3).length = 3 := rfl
theorem dv8_bn (chain input : List Int) (n : Int) : ∀ l ∈ dv8 chain input n, Bn 32 l := fun l hl => by
  unfold dv8 at hl
  split at hl
  · rcases List.mem_cons.1 hl with rfl | hl
    · exact hm8_bn _ _
    · rw [List.mem_singleton.1 hl]; exact hm8_bn _ _
  · split at hl
    · rcases List.mem_cons.1 hl with rfl | hl
      · exact hm8_bn _ _
      · rcases List.mem_cons.1 hl with rfl | hl
        · exact hm8_bn _ _
        · rw [List.mem_singleton.1 hl]; exact hm8_bn _ _
    · cases hl
end Go.Proofs.YtiicepinnfgknaaDoor
