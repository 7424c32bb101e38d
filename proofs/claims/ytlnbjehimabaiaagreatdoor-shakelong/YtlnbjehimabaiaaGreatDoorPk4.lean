/-
  Several texts of one's own, laid together. No statement of the seat is proved here.
-/
import Derived.Test.YtlnbjehimabaiaaGreatDoorOWord
import Derived.Test.YtlnbjehimabaiaaGreatDoorPk1
import Derived.Test.YtlnbjehimabaiaaGreatDoorPk3
/-
 BLAKE2s on lists of bytes and of words: what chapter 7 says, to be run by the kernel. No statement of the seat is proved here.
-/
namespace Go.Proofs.YtlnbjehimabaiaaGreatDoor
open Go.RowKit
set_option maxRecDepth 8000

/-- A word of 32 bits; sums, xors and turns to the right of words. -/
def W7 (x : Int) : Prop := 0 ≤ x ∧ x < 4294967296
def ad7 (a b : Int) : Int := (a + b) % 4294967296
def xr7 (a b : Int) : Int := bits .xor .u32 a b
def rr7 (x : Int) (p q : Int) : Int := x / p + x % p * q
theorem ad7_w (a b : Int) : W7 (ad7 a b) := ⟨by unfold ad7; omega, by unfold ad7; omega⟩
theorem xr7_w {a b : Int} (ha : W7 a) (hb : W7 b) : W7 (xr7 a b) := by
 obtain ⟨A, rfl⟩ := Int.eq_ofNat_of_zero_le ha.1
 obtain ⟨B, rfl⟩ := Int.eq_ofNat_of_zero_le hb.1
 have h1 := ha.2
 have h2 := hb.2
 unfold xr7
 rw [u32_xor_nat A B (by omega) (by omega)]
 have : A ^^^ B < 2 ^ 32 := Nat.xor_lt_two_pow (by omega) (by omega)
 exact ⟨by omega, by omega⟩
theorem rr7_16 {x : Int} (h : W7 x) : W7 (rr7 x 65536 65536) := ⟨by have := h.1; unfold rr7; omega, by have := h.1; have := h.2; unfold rr7; omega⟩
theorem rr7_12 {x : Int} (h : W7 x) : W7 (rr7 x 4096 1048576) := ⟨by have := h.1; unfold rr7; omega, by have := h.1; have := h.2; unfold rr7; omega⟩
theorem rr7_8 {x : Int} (h : W7 x) : W7 (rr7 x 256 16777216) := ⟨by have := h.1; unfold rr7; omega, by have := h.1; have := h.2; unfold rr7; omega⟩
theorem rr7_7 {x : Int} (h : W7 x) : W7 (rr7 x 128 33554432) := ⟨by have := h.1; unfold rr7; omega, by have := h.1; have := h.2; unfold rr7; omega⟩
/-- G. -/
def mg7 (a b c d x y : Int) : Int × Int × Int × Int :=
 let a1 := ad7 (ad7 a b) x
 let d1 := rr7 (xr7 d a1) 65536 65536
 let c1 := ad7 c d1
 let b1 := rr7 (xr7 b c1) 4096 1048576
 let a2 := ad7 (ad7 a1 b1) y
 let d2 := rr7 (xr7 d1 a2) 256 16777216
 let c2 := ad7 c1 d2
 let b2 := rr7 (xr7 b1 c2) 128 33554432
 (a2, b2, c2, d2)
def bg7 (L : List Int) (i j k l : Nat) (x y : Int) : List Int :=
 let r := mg7 L[i]! L[j]! L[k]! L[l]! x y
 (((L.set i r.1).set j r.2.1).set k r.2.2.1).set l r.2.2.2
def iv7 : List Int := [1779033703, 3144134277, 1013904242, 2773480762, 1359893119, 2600822924, 528734635, 1541459225]
def sg7 : List (List Nat) := [
 [0, 1, 2, 3, 4, 5, 6, 7, 8, 9, 10, 11, 12, 13, 14, 15],
 [14, 10, 4, 8, 9, 15, 13, 6, 1, 12, 0, 2, 11, 7, 5, 3],
 [11, 8, 12, 0, 5, 2, 15, 13, 10, 14, 3, 6, 7, 1, 9, 4],
 [7, 9, 3, 1, 13, 12, 11, 14, 2, 6, 5, 10, 4, 0, 15, 8],
 [9, 0, 5, 7, 2, 4, 10, 15, 14, 1, 11, 12, 6, 8, 3, 13],
 [2, 12, 6, 10, 0, 11, 8, 3, 4, 13, 7, 5, 15, 14, 1, 9],
 [12, 5, 1, 15, 14, 13, 4, 10, 0, 7, 6, 3, 9, 2, 8, 11],
 [13, 11, 7, 14, 12, 1, 3, 9, 5, 0, 15, 4, 8, 6, 2, 10],
 [6, 15, 14, 9, 11, 3, 0, 8, 12, 2, 13, 7, 1, 4, 10, 5],
 [10, 2, 8, 4, 7, 6, 1, 5, 15, 11, 9, 14, 3, 12, 13, 0]]
/-- The places of the i-th G of a round. -/
def rw7 : List (Nat × Nat × Nat × Nat) := [(0, 4, 8, 12), (1, 5, 9, 13), (2, 6, 10, 14), (3, 7, 11, 15), (0, 5, 10, 15), (1, 6, 11, 12), (2, 7, 8, 13), (3, 4, 9, 14)]
def st7 (m : List Int) (s : List Nat) (L : List Int) (i : Nat) : List Int :=
 let r := rw7[i]!
 bg7 L r.1 r.2.1 r.2.2.1 r.2.2.2 m[s[2 * i]!]! m[s[2 * i + 1]!]!
/-- The first i of a round; the first k rounds. -/
def gs7 (m : List Int) (s : List Nat) (L : List Int) : Nat → List Int
 | 0 => L
 | i + 1 => st7 m s (gs7 m s L i) i
def rs7 (m L : List Int) : Nat → List Int
 | 0 => L
 | k + 1 => gs7 m sg7[k]! (rs7 m L k) 8
/-- A block's words. -/
def wd7 (b : List Int) : Nat → List Int
 | 0 => []
 | i + 1 => wd7 b i ++ [leN ((b.drop (4 * i)).take 4)]
/-- v, ahead of the rounds. -/
def vs7 (h : List Int) (t : Int) (last : Bool) : List Int :=
 let v := h ++ iv7
 let v := v.set 12 (xr7 v[12]! (t % 4294967296))
 let v := v.set 13 (xr7 v[13]! (t / 4294967296 % 4294967296))
 if last then v.set 14 (4294967295 - v[14]!) else v
/-- One block pressed in. -/
def pr7 (h b : List Int) (t : Int) (last : Bool) : List Int :=
 let v := rs7 (wd7 b 16) (vs7 h t last) 10
 List.zipWith xr7 h (List.zipWith xr7 (v.take 8) (v.drop 8))
def h07 : List Int := iv7.set 0 (xr7 1779033703 16842784)
/-- The blocks ahead of the last one, and the last one. -/
def bl7 : Nat → List Int → Int → List Int → List Int
 | 0, h, _, _ => h
 | n + 1, h, t, text => if text.length ≤ 64 then pr7 h (text ++ List.replicate (64 - text.length) 0) (t + text.length) true else bl7 n (pr7 h (text.take 64) (t + 64) false) (t + 64) (text.drop 64)
def ou7 (h : List Int) : Nat → List Int
 | 0 => []
 | i + 1 => ou7 h i ++ lay 4 h[i]!
def sum7 (text : List Int) : List Int := ou7 (bl7 (text.length + 1) h07 0 text) 8
theorem sum7_abc : sum7 [97, 98, 99] = [80, 140, 94, 140, 50, 124, 20, 226, 225, 167, 43, 163, 78, 235, 69, 47, 55, 69, 139, 32, 158, 214, 58, 41, 77, 153, 155, 76, 134, 103, 89, 130] := by decide +kernel
end Go.Proofs.YtlnbjehimabaiaaGreatDoor
/-
 BLAKE2s of a text that comes in pieces: what has been pressed in of it, and what waits. No statement of the seat is proved here.
-/
namespace Go.Proofs.YtlnbjehimabaiaaGreatDoor
open Go.RowKit
set_option maxRecDepth 8000

/-- The first k blocks pressed in, none of them the last. -/
def hb7 (text : List Int) : Nat → List Int
 | 0 => h07
 | k + 1 => pr7 (hb7 text k) ((text.drop (64 * k)).take 64) ((64 * (k + 1) : Nat) : Int) false
/-- How many are pressed in before the last one is known. -/
def kb7 (n : Nat) : Nat := (n - 1) / 64
def pad7 (l : List Int) : List Int := l ++ List.replicate (64 - l.length) 0
/-- The last block pressed in, and the words as bytes. -/
def fin7 (h buf : List Int) (n : Nat) : List Int := ou7 (pr7 h (pad7 buf) (n : Int) true) 8
theorem hb7_app (a b : List Int) : ∀ k, 64 * k ≤ a.length → hb7 (a ++ b) k = hb7 a k
 | 0, _ => rfl
 | k + 1, h => by
  rw [hb7, hb7, hb7_app a b k (by omega), List.drop_append_of_le_length (by omega), List.take_append_of_le_length (by rw [List.length_drop]; omega)]
theorem bl7_eq (text : List Int) : ∀ (n j : Nat), text.length ≤ 64 * j + 64 * n → (j = 0 ∨ 64 * j < text.length) → 0 < n →
  bl7 n (hb7 text j) ((64 * j : Nat) : Int) (text.drop (64 * j)) = pr7 (hb7 text (kb7 text.length)) (pad7 (text.drop (64 * kb7 text.length))) (text.length : Int) true
 | 0, _, _, _, h => by omega
 | n + 1, j, hn, hj, _ => by
  rw [bl7, List.length_drop]
  by_cases h : text.length - 64 * j ≤ 64
  ·have e : kb7 text.length = j := by unfold kb7; omega
   rw [if_pos h, e]
   unfold pad7
   rw [List.length_drop]
   congr 1
   omega
  ·rw [if_neg h]
   have hn1 : 0 < n := by omega
   have := bl7_eq text n (j + 1) (by omega) (.inr (by omega)) hn1
   rw [hb7] at this
   rw [← this, List.drop_drop, show 64 * j + 64 = 64 * (j + 1) by omega, show ((64 * j : Nat) : Int) + 64 = ((64 * (j + 1) : Nat) : Int) by omega]
theorem sum7_eq (text : List Int) : sum7 text = fin7 (hb7 text (kb7 text.length)) (text.drop (64 * kb7 text.length)) text.length := by
 unfold sum7 fin7
 have := bl7_eq text (text.length + 1) 0 (by omega) (.inl rfl) (by omega)
 rw [List.drop_zero] at this
 rw [← this]
 rfl
end Go.Proofs.YtlnbjehimabaiaaGreatDoor
/-
 What blake's turned and quarter do: words turned round and mixed. No statement of the seat is proved here.
-/
namespace Go.Proofs.YtlnbjehimabaiaaGreatDoor
open Go.RowKit
set_option maxRecDepth 8000

theorem u32_or_swap {a b : Int} (ha : W7 a) (hb : W7 b) : bits .or .u32 a b = bits .or .u32 b a := by
 rw [u32_or a b ha.1 ha.2 hb.1 hb.2, u32_or b a hb.1 hb.2 ha.1 ha.2, Nat.or_comm]
theorem rr7_16_or {x : Int} (h : W7 x) : bits .or .u32 (x / 65536) (x * 65536 % 4294967296) = rr7 x 65536 65536 := by
 have h0 := h.1
 have h1 := h.2
 have e : x * 65536 % 4294967296 = x % 65536 * 65536 := by omega
 rw [e, or32 (x / 65536) (x % 65536) 16 65536 (by decide) (by omega) (by omega) (by omega) (by omega)]
 rfl
theorem rr7_16_or' {x : Int} (h : W7 x) : bits .or .u32 (x * 65536 % 4294967296) (x / 65536) = rr7 x 65536 65536 := by
 have h0 := h.1
 have h1 := h.2
 rw [u32_or_swap ⟨by omega, by omega⟩ ⟨by omega, by omega⟩, rr7_16_or h]
theorem rr7_12_or {x : Int} (h : W7 x) : bits .or .u32 (x / 4096) (x * 1048576 % 4294967296) = rr7 x 4096 1048576 := by
 have h0 := h.1
 have h1 := h.2
 have e : x * 1048576 % 4294967296 = x % 4096 * 1048576 := by omega
 rw [e, or32 (x / 4096) (x % 4096) 20 1048576 (by decide) (by omega) (by omega) (by omega) (by omega)]
 rfl
theorem rr7_12_or' {x : Int} (h : W7 x) : bits .or .u32 (x * 1048576 % 4294967296) (x / 4096) = rr7 x 4096 1048576 := by
 have h0 := h.1
 have h1 := h.2
 rw [u32_or_swap ⟨by omega, by omega⟩ ⟨by omega, by omega⟩, rr7_12_or h]
theorem rr7_8_or {x : Int} (h : W7 x) : bits .or .u32 (x / 256) (x * 16777216 % 4294967296) = rr7 x 256 16777216 := by
 have h0 := h.1
 have h1 := h.2
 have e : x * 16777216 % 4294967296 = x % 256 * 16777216 := by omega
 rw [e, or32 (x / 256) (x % 256) 24 16777216 (by decide) (by omega) (by omega) (by omega) (by omega)]
 rfl
theorem rr7_8_or' {x : Int} (h : W7 x) : bits .or .u32 (x * 16777216 % 4294967296) (x / 256) = rr7 x 256 16777216 := by
 have h0 := h.1
 have h1 := h.2
 rw [u32_or_swap ⟨by omega, by omega⟩ ⟨by omega, by omega⟩, rr7_8_or h]
theorem rr7_7_or {x : Int} (h : W7 x) : bits .or .u32 (x / 128) (x * 33554432 % 4294967296) = rr7 x 128 33554432 := by
 have h0 := h.1
 have h1 := h.2
 have e : x * 33554432 % 4294967296 = x % 128 * 33554432 := by omega
 rw [e, or32 (x / 128) (x % 128) 25 33554432 (by decide) (by omega) (by omega) (by omega) (by omega)]
 rfl
theorem rr7_7_or' {x : Int} (h : W7 x) : bits .or .u32 (x * 33554432 % 4294967296) (x / 128) = rr7 x 128 33554432 := by
 have h0 := h.1
 have h1 := h.2
 rw [u32_or_swap ⟨by omega, by omega⟩ ⟨by omega, by omega⟩, rr7_7_or h]

set_option maxHeartbeats 400000 in
theorem turn7_16_c (x : Int) (hx : W7 x) (w : World) :
  Calls Tryz.prog 181 #[.int .u32 x, .int .i64 16] w fun e w' => ∃ z, e = .returned (.int .u32 z) ∧ Hid (z = rr7 x 65536 65536) ∧ W7 z ∧ Below w.heap.size w w' := by
 have HZ : Hid (W7 (rr7 x 65536 65536)) := rr7_16 hx
 rw [← rr7_16_or hx] at HZ
 have HE : Hid _ := rr7_16_or hx
 obtain ⟨x0, x1⟩ := hx
 go_enter Tryz.func181, Tryz.ntmps181
 go_wp2
 go_quiet (fail)
 go_wp2
 go_ret
 exact ⟨_, rfl, HE, HZ.out, below_drewN (Below.refl _ _) _⟩

set_option maxHeartbeats 400000 in
theorem turn7_12_c (x : Int) (hx : W7 x) (w : World) :
  Calls Tryz.prog 181 #[.int .u32 x, .int .i64 12] w fun e w' => ∃ z, e = .returned (.int .u32 z) ∧ Hid (z = rr7 x 4096 1048576) ∧ W7 z ∧ Below w.heap.size w w' := by
 have HZ : Hid (W7 (rr7 x 4096 1048576)) := rr7_12 hx
 rw [← rr7_12_or hx] at HZ
 have HE : Hid _ := rr7_12_or hx
 obtain ⟨x0, x1⟩ := hx
 go_enter Tryz.func181, Tryz.ntmps181
 go_wp2
 go_quiet (fail)
 go_wp2
 go_ret
 exact ⟨_, rfl, HE, HZ.out, below_drewN (Below.refl _ _) _⟩

set_option maxHeartbeats 400000 in
theorem turn7_8_c (x : Int) (hx : W7 x) (w : World) :
  Calls Tryz.prog 181 #[.int .u32 x, .int .i64 8] w fun e w' => ∃ z, e = .returned (.int .u32 z) ∧ Hid (z = rr7 x 256 16777216) ∧ W7 z ∧ Below w.heap.size w w' := by
 have HZ : Hid (W7 (rr7 x 256 16777216)) := rr7_8 hx
 rw [← rr7_8_or hx] at HZ
 have HE : Hid _ := rr7_8_or hx
 obtain ⟨x0, x1⟩ := hx
 go_enter Tryz.func181, Tryz.ntmps181
 go_wp2
 go_quiet (fail)
 go_wp2
 go_ret
 exact ⟨_, rfl, HE, HZ.out, below_drewN (Below.refl _ _) _⟩

set_option maxHeartbeats 400000 in
theorem turn7_7_c (x : Int) (hx : W7 x) (w : World) :
  Calls Tryz.prog 181 #[.int .u32 x, .int .i64 7] w fun e w' => ∃ z, e = .returned (.int .u32 z) ∧ Hid (z = rr7 x 128 33554432) ∧ W7 z ∧ Below w.heap.size w w' := by
 have HZ : Hid (W7 (rr7 x 128 33554432)) := rr7_7 hx
 rw [← rr7_7_or hx] at HZ
 have HE : Hid _ := rr7_7_or hx
 obtain ⟨x0, x1⟩ := hx
 go_enter Tryz.func181, Tryz.ntmps181
 go_wp2
 go_quiet (fail)
 go_wp2
 go_ret
 exact ⟨_, rfl, HE, HZ.out, below_drewN (Below.refl _ _) _⟩

theorem ad7_sum (a b x : Int) : (a + (b + x)) % 4294967296 = ad7 (ad7 a b) x := by
 unfold ad7
 omega
theorem mg7_of {a b c d x y a1 d1 c1 b1 a2 d2 c2 b2 : Int} (h1 : a1 = ad7 (ad7 a b) x) (h2 : d1 = rr7 (xr7 d a1) 65536 65536) (h3 : c1 = ad7 c d1) (h4 : b1 = rr7 (xr7 b c1) 4096 1048576) (h5 : a2 = ad7 (ad7 a1 b1) y) (h6 : d2 = rr7 (xr7 d1 a2) 256 16777216) (h7 : c2 = ad7 c1 d2) (h8 : b2 = rr7 (xr7 b1 c2) 128 33554432) : (a2, b2, c2, d2) = mg7 a b c d x y := by
 simp only [mg7, ← h1, ← h2, ← h3, ← h4, ← h5, ← h6, ← h7, ← h8]
theorem mg7_w {a b c d : Int} (x y : Int) (_ha : W7 a) (hb : W7 b) (_hc : W7 c) (hd : W7 d) : W7 (mg7 a b c d x y).1 ∧ W7 (mg7 a b c d x y).2.1 ∧ W7 (mg7 a b c d x y).2.2.1 ∧ W7 (mg7 a b c d x y).2.2.2 := by
 have h1 := ad7_w (ad7 a b) x
 have h2 := rr7_16 (xr7_w hd h1)
 have h3 := ad7_w c (rr7 (xr7 d (ad7 (ad7 a b) x)) 65536 65536)
 have h4 := rr7_12 (xr7_w hb h3)
 simp only [mg7]
 generalize ad7 (ad7 a b) x = a1 at *
 generalize rr7 (xr7 d a1) 65536 65536 = d1 at *
 generalize ad7 c d1 = c1 at *
 generalize rr7 (xr7 b c1) 4096 1048576 = b1 at *
 have h5 := ad7_w (ad7 a1 b1) y
 have h6 := rr7_8 (xr7_w h2 h5)
 generalize ad7 (ad7 a1 b1) y = a2 at *
 generalize rr7 (xr7 d1 a2) 256 16777216 = d2 at *
 have h7 := ad7_w c1 d2
 have h8 := rr7_7 (xr7_w h4 h7)
 generalize ad7 c1 d2 = c2 at *
 generalize rr7 (xr7 b1 c2) 128 33554432 = b2 at *
 exact ⟨h5, h8, h7, h6⟩

set_option maxHeartbeats 1000000 in
theorem quarter7_c (a b c d x y : Int) (ha : W7 a) (hb : W7 b) (hc : W7 c) (hd : W7 d) (hx : W7 x) (hy : W7 y) (w : World) :
  Calls Tryz.prog 176 #[.int .u32 a, .int .u32 b, .int .u32 c, .int .u32 d, .int .u32 x, .int .u32 y] w fun e w' => ∃ p q r s, e = .returned (.tuple #[.int .u32 p, .int .u32 q, .int .u32 r, .int .u32 s]) ∧ Hid ((p, q, r, s) = mg7 a b c d x y) ∧ W7 p ∧ W7 q ∧ W7 r ∧ W7 s ∧ Below w.heap.size w w' := by
 obtain ⟨a0, a9⟩ := ha
 obtain ⟨b0, b9⟩ := hb
 obtain ⟨c0, c9⟩ := hc
 obtain ⟨d0, d9⟩ := hd
 obtain ⟨x0, x9⟩ := hx
 obtain ⟨y0, y9⟩ := hy
 have HB : Hid (Below w.heap.size w w) := Below.refl _ _
 go_enter Tryz.func176, Tryz.ntmps176
 go_wp2_with fail
 try simp only [Int.add_emod_emod]
 have k1 : 0 ≤ (a + (b + x)) % 4294967296 := by omega
 have l1 : (a + (b + x)) % 4294967296 < 4294967296 := by omega
 generalize h1 : (a + (b + x)) % 4294967296 = a1 at *
 have Ha1 : Hid (a1 = ad7 (ad7 a b) x) := by unfold Hid; rw [← h1]; first | exact ad7_sum _ _ _ | rfl
 clear h1
 refine (turn7_16_c _ (xr7_w (a := d) (b := a1) ⟨by omega, by omega⟩ ⟨k1, l1⟩) _).mono ?_
 rintro e w1 ⟨d1, rfl, Hd1, ⟨m1, n1⟩, hb⟩
 replace HB := hidp (HB.out.trans (hb.mono HB.out.size))
 clear hb
 go_wp2_with fail
 try simp only [Int.add_emod_emod]
 have k2 : 0 ≤ (c + d1) % 4294967296 := by omega
 have l2 : (c + d1) % 4294967296 < 4294967296 := by omega
 generalize h2 : (c + d1) % 4294967296 = c1 at *
 have Hc1 : Hid (c1 = ad7 c d1) := by unfold Hid; rw [← h2]; first | exact ad7_sum _ _ _ | rfl
 clear h2
 refine (turn7_12_c _ (xr7_w (a := b) (b := c1) ⟨by omega, by omega⟩ ⟨k2, l2⟩) _).mono ?_
 rintro e w2 ⟨b1, rfl, Hb1, ⟨m2, n2⟩, hb⟩
 replace HB := hidp (HB.out.trans (hb.mono HB.out.size))
 clear hb
 go_wp2_with fail
 try simp only [Int.add_emod_emod]
 have k3 : 0 ≤ (a1 + (b1 + y)) % 4294967296 := by omega
 have l3 : (a1 + (b1 + y)) % 4294967296 < 4294967296 := by omega
 generalize h3 : (a1 + (b1 + y)) % 4294967296 = a2 at *
 have Ha2 : Hid (a2 = ad7 (ad7 a1 b1) y) := by unfold Hid; rw [← h3]; first | exact ad7_sum _ _ _ | rfl
 clear h3
 refine (turn7_8_c _ (xr7_w (a := d1) (b := a2) ⟨by omega, by omega⟩ ⟨k3, l3⟩) _).mono ?_
 rintro e w3 ⟨d2, rfl, Hd2, ⟨m3, n3⟩, hb⟩
 replace HB := hidp (HB.out.trans (hb.mono HB.out.size))
 clear hb
 go_wp2_with fail
 try simp only [Int.add_emod_emod]
 have k4 : 0 ≤ (c1 + d2) % 4294967296 := by omega
 have l4 : (c1 + d2) % 4294967296 < 4294967296 := by omega
 generalize h4 : (c1 + d2) % 4294967296 = c2 at *
 have Hc2 : Hid (c2 = ad7 c1 d2) := by unfold Hid; rw [← h4]; first | exact ad7_sum _ _ _ | rfl
 clear h4
 refine (turn7_7_c _ (xr7_w (a := b1) (b := c2) ⟨by omega, by omega⟩ ⟨k4, l4⟩) _).mono ?_
 rintro e w4 ⟨b2, rfl, Hb2, ⟨m4, n4⟩, hb⟩
 replace HB := hidp (HB.out.trans (hb.mono HB.out.size))
 clear hb
 go_wp2
 refine bodyPost_ret (v := .tuple #[.int .u32 a2, .int .u32 b2, .int .u32 c2, .int .u32 d2]) (by simp [results, Tryz.results176, go_sem]) rfl ?_
 exact ⟨_, _, _, _, rfl, mg7_of Ha1.out Hd1.out Hc1.out Hb1.out Ha2.out Hd2.out Hc2.out Hb2.out, ⟨k3, l3⟩, ⟨m4, n4⟩, ⟨k4, l4⟩, ⟨m3, n3⟩, HB.out⟩
end Go.Proofs.YtlnbjehimabaiaaGreatDoor
