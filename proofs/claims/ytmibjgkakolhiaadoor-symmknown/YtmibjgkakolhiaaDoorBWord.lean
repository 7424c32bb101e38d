/-
  What blake's turned and quarter do: words turned round and mixed. No statement of the seat is proved here.
-/
import Derived.Test.YtmibjgkakolhiaaDoorPk5
import Derived.Test.YtmibjgkakolhiaaDoorKGen
namespace Go.Proofs.YtmibjgkakolhiaaDoor
open Go.RowKit

set_option maxRecDepth 8000 in
theorem u32_or_swap {a b : Int} (ha : W7 a) (hb : W7 b) : bits .or .u32 a b = bits .or .u32 b a := by
  rw [u32_or a b ha.1 ha.2 hb.1 hb.2, u32_or b a hb.1 hb.2 ha.1 ha.2, Nat.or_comm]
set_option maxRecDepth 8000 in
theorem rr7_16_or {x : Int} (h : W7 x) : bits .or .u32 (x / 65536) (x * 65536 % 4294967296) = rr7 x 65536 65536 := by
  have h0 := h.1
  have h1 := h.2
  have e : x * 65536 % 4294967296 = x % 65536 * 65536 := by omega
  rw [e, or32 (x / 65536) (x % 65536) 16 65536 (by decide) (by omega) (by omega) (by omega) (by omega)]
  rfl
set_option maxRecDepth 8000 in
theorem rr7_16_or' {x : Int} (h : W7 x) : bits .or .u32 (x * 65536 % 4294967296) (x / 65536) = rr7 x 65536 65536 := by
  have h0 := h.1
  have h1 := h.2
  rw [u32_or_swap ⟨by omega, by omega⟩ ⟨by omega, by omega⟩, rr7_16_or h]
set_option maxRecDepth 8000 in
theorem rr7_12_or {x : Int} (h : W7 x) : bits .or .u32 (x / 4096) (x * 1048576 % 4294967296) = rr7 x 4096 1048576 := by
  have h0 := h.1
  have h1 := h.2
  have e : x * 1048576 % 4294967296 = x % 4096 * 1048576 := by omega
  rw [e, or32 (x / 4096) (x % 4096) 20 1048576 (by decide) (by omega) (by omega) (by omega) (by omega)]
  rfl
set_option maxRecDepth 8000 in
theorem rr7_12_or' {x : Int} (h : W7 x) : bits .or .u32 (x * 1048576 % 4294967296) (x / 4096) = rr7 x 4096 1048576 := by
  have h0 := h.1
  have h1 := h.2
  rw [u32_or_swap ⟨by omega, by omega⟩ ⟨by omega, by omega⟩, rr7_12_or h]
set_option maxRecDepth 8000 in
theorem rr7_8_or {x : Int} (h : W7 x) : bits .or .u32 (x / 256) (x * 16777216 % 4294967296) = rr7 x 256 16777216 := by
  have h0 := h.1
  have h1 := h.2
  have e : x * 16777216 % 4294967296 = x % 256 * 16777216 := by omega
  rw [e, or32 (x / 256) (x % 256) 24 16777216 (by decide) (by omega) (by omega) (by omega) (by omega)]
  rfl
set_option maxRecDepth 8000 in
theorem rr7_8_or' {x : Int} (h : W7 x) : bits .or .u32 (x * 16777216 % 4294967296) (x / 256) = rr7 x 256 16777216 := by
  have h0 := h.1
  have h1 := h.2
  rw [u32_or_swap ⟨by omega, by omega⟩ ⟨by omega, by omega⟩, rr7_8_or h]
set_option maxRecDepth 8000 in
theorem rr7_7_or {x : Int} (h : W7 x) : bits .or .u32 (x / 128) (x * 33554432 % 4294967296) = rr7 x 128 33554432 := by
  have h0 := h.1
  have h1 := h.2
  have e : x * 33554432 % 4294967296 = x % 128 * 33554432 := by omega
  rw [e, or32 (x / 128) (x % 128) 25 33554432 (by decide) (by omega) (by omega) (by omega) (by omega)]
  rfl
set_option maxRecDepth 8000 in
theorem rr7_7_or' {x : Int} (h : W7 x) : bits .or .u32 (x * 33554432 % 4294967296) (x / 128) = rr7 x 128 33554432 := by
  have h0 := h.1
  have h1 := h.2
  rw [u32_or_swap ⟨by omega, by omega⟩ ⟨by omega, by omega⟩, rr7_7_or h]

set_option maxRecDepth 8000 in
set_option maxHeartbeats 400000 in
theorem turn7_16_c (x : Int) (hx : W7 x) (w : World) :
    Calls Tryd.prog 79 #[.int .u32 x, .int .i64 16] w fun e w' => ∃ z, e = .returned (.int .u32 z) ∧ Hid (z = rr7 x 65536 65536) ∧ W7 z ∧ Below w.heap.size w w' := by
  have HZ : Hid (W7 (rr7 x 65536 65536)) := rr7_16 hx
  rw [← rr7_16_or hx] at HZ
  have HE : Hid _ := rr7_16_or hx
  obtain ⟨x0, x1⟩ := hx
  go_enter Tryd.func79, Tryd.ntmps79
  go_wp2
  go_quiet (fail)
  go_wp2
  go_ret
  exact ⟨_, rfl, HE, HZ.out, below_drewN (Below.refl _ _) _⟩

set_option maxRecDepth 8000 in
set_option maxHeartbeats 400000 in
theorem turn7_12_c (x : Int) (hx : W7 x) (w : World) :
    Calls Tryd.prog 79 #[.int .u32 x, .int .i64 12] w fun e w' => ∃ z, e = .returned (.int .u32 z) ∧ Hid (z = rr7 x 4096 1048576) ∧ W7 z ∧ Below w.heap.size w w' := by
  have HZ : Hid (W7 (rr7 x 4096 1048576)) := rr7_12 hx
  rw [← rr7_12_or hx] at HZ
  have HE : Hid _ := rr7_12_or hx
  obtain ⟨x0, x1⟩ := hx
  go_enter Tryd.func79, Tryd.ntmps79
  go_wp2
  go_quiet (fail)
  go_wp2
  go_ret
  exact ⟨_, rfl, HE, HZ.out, below_drewN (Below.refl _ _) _⟩

set_option maxRecDepth 8000 in
set_option maxHeartbeats 400000 in
theorem turn7_8_c (x : Int) (hx : W7 x) (w : World) :
    Calls Tryd.prog 79 #[.int .u32 x, .int .i64 8] w fun e w' => ∃ z, e = .returned (.int .u32 z) ∧ Hid (z = rr7 x 256 16777216) ∧ W7 z ∧ Below w.heap.size w w' := by
  have HZ : Hid (W7 (rr7 x 256 16777216)) := rr7_8 hx
  rw [← rr7_8_or hx] at HZ
  have HE : Hid _ := rr7_8_or hx
  obtain ⟨x0, x1⟩ := hx
  go_enter Tryd.func79, Tryd.ntmps79
  go_wp2
  go_quiet (fail)
  go_wp2
  go_ret
  exact ⟨_, rfl, HE, HZ.out, below_drewN (Below.refl _ _) _⟩

set_option maxRecDepth 8000 in
set_option maxHeartbeats 400000 in
theorem turn7_7_c (x : Int) (hx : W7 x) (w : World) :
    Calls Tryd.prog 79 #[.int .u32 x, .int .i64 7] w fun e w' => ∃ z, e = .returned (.int .u32 z) ∧ Hid (z = rr7 x 128 33554432) ∧ W7 z ∧ Below w.heap.size w w' := by
  have HZ : Hid (W7 (rr7 x 128 33554432)) := rr7_7 hx
  rw [← rr7_7_or hx] at HZ
  have HE : Hid _ := rr7_7_or hx
  obtain ⟨x0, x1⟩ := hx
  go_enter Tryd.func79, Tryd.ntmps79
  go_wp2
  go_quiet (fail)
  go_wp2
  go_ret
  exact ⟨_, rfl, HE, HZ.out, below_drewN (Below.refl _ _) _⟩

set_option maxRecDepth 8000 in
theorem ad7_sum (a b x : Int) : (a + (b + x)) % 4294967296 = ad7 (ad7 a b) x := by
  unfold ad7
  omega
set_option maxRecDepth 8000 in
theorem mg7_of {a b c d x y a1 d1 c1 b1 a2 d2 c2 b2 : Int} (h1 : a1 = ad7 (ad7 a b) x) (h2 : d1 = rr7 (xr7 d a1) 65536 65536) (h3 : c1 = ad7 c d1) (h4 : b1 = rr7 (xr7 b c1) 4096 1048576) (h5 : a2 = ad7 (ad7 a1 b1) y) (h6 : d2 = rr7 (xr7 d1 a2) 256 16777216) (h7 : c2 = ad7 c1 d2) (h8 : b2 = rr7 (xr7 b1 c2) 128 33554432) : (a2, b2, c2, d2) = mg7 a b c d x y := by
  simp only [mg7, ← h1, ← h2, ← h3, ← h4, ← h5, ← h6, ← h7, ← h8]
set_option maxRecDepth 8000 in
theorem mg7_w {a b c d : Int} (x y : Int) (_ha : W7 a) (hb : W7 b) (_hc : W7 c) (hd : W7 d) : W7 (mg7 a b c d x y).1 ∧ W7 (mg7 a b c d x y).2.1 ∧ W7 (mg7 a b c d x y).2.2.1 ∧ W7 (mg7 a b c d x y).2.2.2 := by
  have h1 := ad7_w (ad7 a b) x
  have h2 := rr7_16 (xr7_w hd h1)
  have h3 := ad7_w c (rr7 (xr7 d (ad7 (ad7 a b) x)) 65536 65536)
  have h4 := rr7_12 (xr7_w hb h3)
  simp only [mg7]
  generalize ad7 (ad7 a b) x = a1 at *
  generalize rr7 (xr7 d a1) 65536 65536 = d1 at *
  generalize ad7 c d1 = c1 at *
  generalize rr7 (xr7 b c1) 4096 1048576 = b1 at *
  have h5 := ad7_w (ad7 a1 b1) y
  have h6 := rr7_8 (xr7_w h2 h5)
  generalize ad7 (ad7 a1 b1) y = a2 at *
  generalize rr7 (xr7 d1 a2) 256 16777216 = d2 at *
  have h7 := ad7_w c1 d2
  have h8 := rr7_7 (xr7_w h4 h7)
  generalize ad7 c1 d2 = c2 at *
  generalize rr7 (xr7 b1 c2) 128 33554432 = b2 at *
  exact ⟨h5, h8, h7, h6⟩

set_option maxRecDepth 8000 in
set_option maxHeartbeats 1000000 in
theorem quarter7_c (a b c d x y : Int) (ha : W7 a) (hb : W7 b) (hc : W7 c) (hd : W7 d) (hx : W7 x) (hy : W7 y) (w : World) :
    Calls Tryd.prog 67 #[.int .u32 a, .int .u32 b, .int .u32 c, .int .u32 d, .int .u32 x, .int .u32 y] w fun e w' => ∃ p q r s, e = .returned (.tuple #[.int .u32 p, .int .u32 q, .int .u32 r, .int .u32 s]) ∧ Hid ((p, q, r, s) = mg7 a b c d x y) ∧ W7 p ∧ W7 q ∧ W7 r ∧ W7 s ∧ Below w.heap.size w w' := by
  obtain ⟨a0, a9⟩ := ha
  obtain ⟨b0, b9⟩ := hb
  obtain ⟨c0, c9⟩ := hc
  obtain ⟨d0, d9⟩ := hd
  obtain ⟨x0, x9⟩ := hx
  obtain ⟨y0, y9⟩ := hy
  have HB : Hid (Below w.heap.size w w) := Below.refl _ _
  go_enter Tryd.func67, Tryd.ntmps67
  go_wp2_with fail
  try simp only [Int.add_emod_emod]
  have k1 : 0 ≤ (a + (b + x)) % 4294967296 := by omega
  have l1 : (a + (b + x)) % 4294967296 < 4294967296 := by omega
  generalize h1 : (a + (b + x)) % 4294967296 = a1 at *
  have Ha1 : Hid (a1 = ad7 (ad7 a b) x) := by unfold Hid; rw [← h1]; first | exact ad7_sum _ _ _ | rfl
  clear h1
  refine (turn7_16_c _ (xr7_w (a := d) (b := a1) ⟨by omega, by omega⟩ ⟨k1, l1⟩) _).mono ?_
  rintro e w1 ⟨d1, rfl, Hd1, ⟨m1, n1⟩, hb⟩
  replace HB : Hid (Below w.heap.size w w1) := HB.out.trans (hb.mono HB.out.size)
  clear hb
  go_wp2_with fail
  try simp only [Int.add_emod_emod]
  have k2 : 0 ≤ (c + d1) % 4294967296 := by omega
  have l2 : (c + d1) % 4294967296 < 4294967296 := by omega
  generalize h2 : (c + d1) % 4294967296 = c1 at *
  have Hc1 : Hid (c1 = ad7 c d1) := by unfold Hid; rw [← h2]; first | exact ad7_sum _ _ _ | rfl
  clear h2
  refine (turn7_12_c _ (xr7_w (a := b) (b := c1) ⟨by omega, by omega⟩ ⟨k2, l2⟩) _).mono ?_
  rintro e w2 ⟨b1, rfl, Hb1, ⟨m2, n2⟩, hb⟩
  replace HB : Hid (Below w.heap.size w w2) := HB.out.trans (hb.mono HB.out.size)
  clear hb
  go_wp2_with fail
  try simp only [Int.add_emod_emod]
  have k3 : 0 ≤ (a1 + (b1 + y)) % 4294967296 := by omega
  have l3 : (a1 + (b1 + y)) % 4294967296 < 4294967296 := by omega
  generalize h3 : (a1 + (b1 + y)) % 4294967296 = a2 at *
  have Ha2 : Hid (a2 = ad7 (ad7 a1 b1) y) := by unfold Hid; rw [← h3]; first | exact ad7_sum _ _ _ | rfl
  clear h3
  refine (turn7_8_c _ (xr7_w (a := d1) (b := a2) ⟨by omega, by omega⟩ ⟨k3, l3⟩) _).mono ?_
  rintro e w3 ⟨d2, rfl, Hd2, ⟨m3, n3⟩, hb⟩
  replace HB : Hid (Below w.heap.size w w3) := HB.out.trans (hb.mono HB.out.size)
  clear hb
  go_wp2_with fail
  try simp only [Int.add_emod_emod]
  have k4 : 0 ≤ (c1 + d2) % 4294967296 := by omega
  have l4 : (c1 + d2) % 4294967296 < 4294967296 := by omega
  generalize h4 : (c1 + d2) % 4294967296 = c2 at *
  have Hc2 : Hid (c2 = ad7 c1 d2) := by unfold Hid; rw [← h4]; first | exact ad7_sum _ _ _ | rfl
  clear h4
  refine (turn7_7_c _ (xr7_w (a := b1) (b := c2) ⟨by omega, by omega⟩ ⟨k4, l4⟩) _).mono ?_
  rintro e w4 ⟨b2, rfl, Hb2, ⟨m4, n4⟩, hb⟩
  replace HB : Hid (Below w.heap.size w w4) := HB.out.trans (hb.mono HB.out.size)
  clear hb
  go_wp2
  refine bodyPost_ret (v := .tuple #[.int .u32 a2, .int .u32 b2, .int .u32 c2, .int .u32 d2]) (by simp [results, Tryd.results67, go_sem]) rfl ?_
  exact ⟨_, _, _, _, rfl, mg7_of Ha1.out Hd1.out Hc1.out Hb1.out Ha2.out Hd2.out Hc2.out Hb2.out, ⟨k3, l3⟩, ⟨m4, n4⟩, ⟨k4, l4⟩, ⟨m3, n3⟩, HB.out⟩
end Go.Proofs.YtmibjgkakolhiaaDoor
