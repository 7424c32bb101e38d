/-
  What the reference's turn and Quarter do: words turned round and mixed. No statement of the seat is proved here.
-/
import Derived.Test.YtjmdgmbkkkoamaaDoorQTurn
namespace Go.Proofs.YtjmdgmbkkkoamaaDoor
open Go.RowKit

set_option maxRecDepth 8000 in
set_option maxHeartbeats 400000 in
theorem rturn16_c (x : Int) (hx : W32 x) (w : World) :
    Calls Tryd.prog 65 #[.int .u32 x, .int .u64 16] w fun e w' => ∃ z, e = .returned (.int .u32 z) ∧ Hid (z = rot 16 x) ∧ W32 z ∧ Below w.heap.size w w' := by
  have HZ : Hid (W32 (rot 16 x)) := rot_w 16 hx
  rw [rot16_eq] at HZ
  obtain ⟨x0, x1⟩ := hx
  go_enter Tryd.func65, Tryd.ntmps65
  go_wp2
  go_ret
  exact ⟨_, rfl, rfl, HZ.out, Below.refl _ _⟩

set_option maxRecDepth 8000 in
set_option maxHeartbeats 400000 in
theorem rturn12_c (x : Int) (hx : W32 x) (w : World) :
    Calls Tryd.prog 65 #[.int .u32 x, .int .u64 12] w fun e w' => ∃ z, e = .returned (.int .u32 z) ∧ Hid (z = rot 12 x) ∧ W32 z ∧ Below w.heap.size w w' := by
  have HZ : Hid (W32 (rot 12 x)) := rot_w 12 hx
  rw [rot12_eq] at HZ
  obtain ⟨x0, x1⟩ := hx
  go_enter Tryd.func65, Tryd.ntmps65
  go_wp2
  go_ret
  exact ⟨_, rfl, rfl, HZ.out, Below.refl _ _⟩

set_option maxRecDepth 8000 in
set_option maxHeartbeats 400000 in
theorem rturn8_c (x : Int) (hx : W32 x) (w : World) :
    Calls Tryd.prog 65 #[.int .u32 x, .int .u64 8] w fun e w' => ∃ z, e = .returned (.int .u32 z) ∧ Hid (z = rot 8 x) ∧ W32 z ∧ Below w.heap.size w w' := by
  have HZ : Hid (W32 (rot 8 x)) := rot_w 8 hx
  rw [rot8_eq] at HZ
  obtain ⟨x0, x1⟩ := hx
  go_enter Tryd.func65, Tryd.ntmps65
  go_wp2
  go_ret
  exact ⟨_, rfl, rfl, HZ.out, Below.refl _ _⟩

set_option maxRecDepth 8000 in
set_option maxHeartbeats 400000 in
theorem rturn7_c (x : Int) (hx : W32 x) (w : World) :
    Calls Tryd.prog 65 #[.int .u32 x, .int .u64 7] w fun e w' => ∃ z, e = .returned (.int .u32 z) ∧ Hid (z = rot 7 x) ∧ W32 z ∧ Below w.heap.size w w' := by
  have HZ : Hid (W32 (rot 7 x)) := rot_w 7 hx
  rw [rot7_eq] at HZ
  obtain ⟨x0, x1⟩ := hx
  go_enter Tryd.func65, Tryd.ntmps65
  go_wp2
  go_ret
  exact ⟨_, rfl, rfl, HZ.out, Below.refl _ _⟩

set_option maxRecDepth 8000 in
set_option maxHeartbeats 1000000 in
theorem rquarter_c (a b c d : Int) (ha : W32 a) (hb : W32 b) (hc : W32 c) (hd : W32 d) (w : World) :
    Calls Tryd.prog 48 #[.int .u32 a, .int .u32 b, .int .u32 c, .int .u32 d] w fun e w' => ∃ p q r s, e = .returned (.tuple #[.int .u32 p, .int .u32 q, .int .u32 r, .int .u32 s]) ∧ Hid ((p, q, r, s) = q4 a b c d) ∧ W32 p ∧ W32 q ∧ W32 r ∧ W32 s ∧ Below w.heap.size w w' := by
  obtain ⟨a0, a9⟩ := ha
  obtain ⟨b0, b9⟩ := hb
  obtain ⟨c0, c9⟩ := hc
  obtain ⟨d0, d9⟩ := hd
  have HB : Hid (Below w.heap.size w w) := Below.refl _ _
  go_enter Tryd.func48, Tryd.ntmps48
  go_wp2_with fail
  have k1 : 0 ≤ (a + b) % 4294967296 := by omega
  have l1 : (a + b) % 4294967296 < 4294967296 := by omega
  generalize h1 : (a + b) % 4294967296 = a1 at *
  have Ha1 : Hid (a1 = ad a b) := h1.symm
  clear h1
  refine (rturn16_c _ (xr_w (a := d) (b := a1) ⟨by omega, by omega⟩ ⟨k1, l1⟩) _).mono ?_
  rintro e w1 ⟨d1, rfl, Hd1, ⟨m1, n1⟩, hb⟩
  replace HB : Hid (Below w.heap.size w w1) := HB.out.trans (hb.mono HB.out.size)
  clear hb
  go_wp2_with fail
  have k2 : 0 ≤ (c + d1) % 4294967296 := by omega
  have l2 : (c + d1) % 4294967296 < 4294967296 := by omega
  generalize h2 : (c + d1) % 4294967296 = c1 at *
  have Hc1 : Hid (c1 = ad c d1) := h2.symm
  clear h2
  refine (rturn12_c _ (xr_w (a := b) (b := c1) ⟨by omega, by omega⟩ ⟨k2, l2⟩) _).mono ?_
  rintro e w2 ⟨b1, rfl, Hb1, ⟨m2, n2⟩, hb⟩
  replace HB : Hid (Below w.heap.size w w2) := HB.out.trans (hb.mono HB.out.size)
  clear hb
  go_wp2_with fail
  have k3 : 0 ≤ (a1 + b1) % 4294967296 := by omega
  have l3 : (a1 + b1) % 4294967296 < 4294967296 := by omega
  generalize h3 : (a1 + b1) % 4294967296 = a2 at *
  have Ha2 : Hid (a2 = ad a1 b1) := h3.symm
  clear h3
  refine (rturn8_c _ (xr_w (a := d1) (b := a2) ⟨by omega, by omega⟩ ⟨k3, l3⟩) _).mono ?_
  rintro e w3 ⟨d2, rfl, Hd2, ⟨m3, n3⟩, hb⟩
  replace HB : Hid (Below w.heap.size w w3) := HB.out.trans (hb.mono HB.out.size)
  clear hb
  go_wp2_with fail
  have k4 : 0 ≤ (c1 + d2) % 4294967296 := by omega
  have l4 : (c1 + d2) % 4294967296 < 4294967296 := by omega
  generalize h4 : (c1 + d2) % 4294967296 = c2 at *
  have Hc2 : Hid (c2 = ad c1 d2) := h4.symm
  clear h4
  refine (rturn7_c _ (xr_w (a := b1) (b := c2) ⟨by omega, by omega⟩ ⟨k4, l4⟩) _).mono ?_
  rintro e w4 ⟨b2, rfl, Hb2, ⟨m4, n4⟩, hb⟩
  replace HB : Hid (Below w.heap.size w w4) := HB.out.trans (hb.mono HB.out.size)
  clear hb
  go_wp2
  refine bodyPost_ret (v := .tuple #[.int .u32 a2, .int .u32 b2, .int .u32 c2, .int .u32 d2]) (by simp [results, Tryd.results48, go_sem]) rfl ?_
  exact ⟨_, _, _, _, rfl, q4_of Ha1.out Hd1.out Hc1.out Hb1.out Ha2.out Hd2.out Hc2.out Hb2.out, ⟨k3, l3⟩, ⟨m4, n4⟩, ⟨k4, l4⟩, ⟨m3, n3⟩, HB.out⟩
end Go.Proofs.YtjmdgmbkkkoamaaDoor
