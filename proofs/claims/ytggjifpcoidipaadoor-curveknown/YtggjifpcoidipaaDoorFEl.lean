/-
  Elements of the field by their numbers: what field's reduceFive, Add, Sub, Small, Mul, Zero, One, Equal do, for whatever numbers below p. No statement of the seat is proved here.
-/
import Derived.Test.YtggjifpcoidipaaDoorFReg
namespace Go.Proofs.YtggjifpcoidipaaDoor
open Go.RowKit

/-- The limbs of a number. -/
def e0 (x : Int) : Int := x % 18446744073709551616
def e1 (x : Int) : Int := x / 18446744073709551616 % 18446744073709551616
def e2 (x : Int) : Int := x / 340282366920938463463374607431768211456 % 18446744073709551616
def e3 (x : Int) : Int := x / 6277101735386680763835789423207666416102355444464034512896
/-- A number of the field: from 0 to p - 1. -/
structure El (x : Int) : Prop where
  h0 : 0 ≤ x
  h1 : x < 57896044618658097711785492504343953926634992332820282019728792003956564819949
theorem El.wd {x : Int} (h : El x) : Wd4 (e0 x) (e1 x) (e2 x) (e3 x) := by
  obtain ⟨h0, h1⟩ := h
  unfold e0 e1 e2 e3
  exact ⟨⟨by omega, by omega⟩, ⟨by omega, by omega⟩, ⟨by omega, by omega⟩, ⟨by omega, by omega⟩⟩
theorem El.vl {x : Int} (h : El x) : vl (e0 x) (e1 x) (e2 x) (e3 x) = x := by
  obtain ⟨h0, h1⟩ := h
  unfold e0 e1 e2 e3 YtggjifpcoidipaaDoor.vl
  omega
theorem e_of {s0 s1 s2 s3 z : Int} (h : Wd4 s0 s1 s2 s3) (hz : vl s0 s1 s2 s3 = z) : s0 = e0 z ∧ s1 = e1 z ∧ s2 = e2 z ∧ s3 = e3 z := by
  obtain ⟨⟨_, _⟩, ⟨_, _⟩, ⟨_, _⟩, ⟨_, _⟩⟩ := h
  subst hz
  unfold e0 e1 e2 e3 YtggjifpcoidipaaDoor.vl
  exact ⟨by omega, by omega, by omega, by omega⟩
theorem El.mod (n : Int) : El (n % 57896044618658097711785492504343953926634992332820282019728792003956564819949) := ⟨by omega, by omega⟩
theorem El.zero : El 0 := ⟨by decide, by decide⟩
theorem El.one : El 1 := ⟨by decide, by decide⟩

theorem reduce_e (a0 a1 a2 a3 h : Int) (ha : Wd4 a0 a1 a2 a3) (hh : 0 ≤ h ∧ h < 288230376151711744) (w : World) :
    Calls Tryd.prog 28 #[(.agg #[.int .u64 a0, .int .u64 a1, .int .u64 a2, .int .u64 a3]), .int .u64 h] w fun e w' =>
      ∃ z, e = .returned (.agg #[.int .u64 (e0 z), .int .u64 (e1 z), .int .u64 (e2 z), .int .u64 (e3 z)]) ∧ El z ∧ Hid (z = (vl a0 a1 a2 a3 + h * 115792089237316195423570985008687907853269984665640564039457584007913129639936) % 57896044618658097711785492504343953926634992332820282019728792003956564819949) ∧ Below w.heap.size w w' := by
  refine (reduce_any a0 a1 a2 a3 h ha hh w).mono ?_
  rintro e w' ⟨s0, s1, s2, s3, rfl, hs, H, hb⟩
  obtain ⟨q0, q1, q2, q3⟩ := e_of hs rfl
  refine ⟨_, ?_, ?_, H, hb⟩
  · rw [← q0, ← q1, ← q2, ← q3]
  · have := H.out
    rw [this]
    exact El.mod _

set_option maxHeartbeats 1000000 in
theorem reduceFive_any (l h0 h1 h2 h3 : Int) (hl : Wd l) (hh : Wd4 h0 h1 h2 h3) (h58 : h3 < 288230376151711744) (w : World) :
    Calls Tryd.prog 34 #[.int .u64 l, (.agg #[.int .u64 h0, .int .u64 h1, .int .u64 h2, .int .u64 h3])] w fun e w' =>
      ∃ z, e = .returned (.agg #[.int .u64 (e0 z), .int .u64 (e1 z), .int .u64 (e2 z), .int .u64 (e3 z)]) ∧ El z ∧ Hid (z = (l + vl h0 h1 h2 h3 * 18446744073709551616) % 57896044618658097711785492504343953926634992332820282019728792003956564819949) ∧ Below w.heap.size w w' := by
  obtain ⟨hh0, hh1, hh2, hh3⟩ := hh
  go_enter Tryd.func34, Tryd.ntmps34
  go_wp2_with fail
  refine (reduce_e _ _ _ _ _ ⟨hl, hh0, hh1, hh2⟩ ⟨hh3.1, h58⟩ _).mono ?_
  rintro e w1 ⟨z, rfl, hz, HZ, hb⟩
  have HB : Hid (Below w.heap.size w w1) := (bel2 _ _ _).trans (hb.mono (by simp; omega))
  have dc0' : w1.cell? ⟨w.heap.size + 1, 0, none⟩ = some (.int .u64 0) := cell_later hb (by simp [go_sem])
  have df0' : w1.frozen? ⟨w.heap.size + 1, 0, none⟩ = false := froz_later hb (by first | omega | (simp <;> omega)) (by simp [go_sem])
  have dc1' : w1.cell? ⟨w.heap.size + 1, 1, none⟩ = some (.int .u64 0) := cell_later hb (by simp [go_sem])
  have df1' : w1.frozen? ⟨w.heap.size + 1, 1, none⟩ = false := froz_later hb (by first | omega | (simp <;> omega)) (by simp [go_sem])
  have dc2' : w1.cell? ⟨w.heap.size + 1, 2, none⟩ = some (.int .u64 0) := cell_later hb (by simp [go_sem])
  have df2' : w1.frozen? ⟨w.heap.size + 1, 2, none⟩ = false := froz_later hb (by first | omega | (simp <;> omega)) (by simp [go_sem])
  have dc3' : w1.cell? ⟨w.heap.size + 1, 3, none⟩ = some (.int .u64 0) := cell_later hb (by simp [go_sem])
  have df3' : w1.frozen? ⟨w.heap.size + 1, 3, none⟩ = false := froz_later hb (by first | omega | (simp <;> omega)) (by simp [go_sem])
  clear hb
  have dc0 := dc0'
  have df0 := df0'
  have dc1 := dc1'
  have df1 := df1'
  have dc2 := dc2'
  have df2 := df2'
  have dc3 := dc3'
  have df3 := df3'
  clear dc0' df0' dc1' df1' dc2' df2' dc3' df3'
  go_wp2
  refine bodyPost_ret (v := (.agg #[.int .u64 (e0 z), .int .u64 (e1 z), .int .u64 (e2 z), .int .u64 (e3 z)])) (by simp [results, Tryd.results34, go_sem, dc0, dc1, dc2, dc3]) rfl ⟨_, rfl, ?_, ?_, ?_⟩
  · exact hz
  · have := HZ.out
    unfold Hid
    rw [this]
    congr 1
    unfold vl
    omega
  · exact ((((HB.out.setCell (by dsimp only; omega) _).setCell (by dsimp only; omega) _).setCell (by dsimp only; omega) _).setCell (by dsimp only; omega) _)

set_option maxHeartbeats 1000000 in
theorem add_e (x y : Int) (hx : El x) (hy : El y) (w : World) :
    Calls Tryd.prog 49 #[(.agg #[.int .u64 (e0 x), .int .u64 (e1 x), .int .u64 (e2 x), .int .u64 (e3 x)]), (.agg #[.int .u64 (e0 y), .int .u64 (e1 y), .int .u64 (e2 y), .int .u64 (e3 y)])] w fun e w' => ∃ z, e = .returned (.agg #[.int .u64 (e0 z), .int .u64 (e1 z), .int .u64 (e2 z), .int .u64 (e3 z)]) ∧ El z ∧ Hid (z = (x + y) % 57896044618658097711785492504343953926634992332820282019728792003956564819949) ∧ Below w.heap.size w w' := by
  have HX : Hid (vl (e0 x) (e1 x) (e2 x) (e3 x) = x) := hx.vl
  have HY : Hid (vl (e0 y) (e1 y) (e2 y) (e3 y) = y) := hy.vl
  go_enter Tryd.func49, Tryd.ntmps49
  go_wp2_with fail
  refine (plus_any _ _ _ _ _ _ _ _ hx.wd hy.wd _).mono ?_
  rintro e w1 ⟨s0, s1, s2, s3, rfl, hs, he, hb⟩
  have HE : Hid (vl s0 s1 s2 s3 = x + y) := by
    unfold Hid
    rw [he, HX.out, HY.out]
    obtain ⟨_, _⟩ := hx
    obtain ⟨_, _⟩ := hy
    omega
  have HB : Hid (Below w.heap.size w w1) := (bel3 _ _ _ _).trans (hb.mono (by simp; omega))
  have hz : w.heap.size + 2 < w1.heap.size := by have := hb.size; simp at this; omega
  have dc0' : w1.cell? ⟨w.heap.size + 2, 0, none⟩ = some (.int .u64 0) := cell_later hb (by simp [go_sem])
  have df0' : w1.frozen? ⟨w.heap.size + 2, 0, none⟩ = false := froz_later hb (by first | omega | (simp <;> omega)) (by simp [go_sem])
  have dc1' : w1.cell? ⟨w.heap.size + 2, 1, none⟩ = some (.int .u64 0) := cell_later hb (by simp [go_sem])
  have df1' : w1.frozen? ⟨w.heap.size + 2, 1, none⟩ = false := froz_later hb (by first | omega | (simp <;> omega)) (by simp [go_sem])
  have dc2' : w1.cell? ⟨w.heap.size + 2, 2, none⟩ = some (.int .u64 0) := cell_later hb (by simp [go_sem])
  have df2' : w1.frozen? ⟨w.heap.size + 2, 2, none⟩ = false := froz_later hb (by first | omega | (simp <;> omega)) (by simp [go_sem])
  have dc3' : w1.cell? ⟨w.heap.size + 2, 3, none⟩ = some (.int .u64 0) := cell_later hb (by simp [go_sem])
  have df3' : w1.frozen? ⟨w.heap.size + 2, 3, none⟩ = false := froz_later hb (by first | omega | (simp <;> omega)) (by simp [go_sem])
  clear hb he
  have dc0 := dc0'
  have df0 := df0'
  have dc1 := dc1'
  have df1 := df1'
  have dc2 := dc2'
  have df2 := df2'
  have dc3 := dc3'
  have df3 := df3'
  clear dc0' df0' dc1' df1' dc2' df2' dc3' df3'
  go_wp2_with fail
  refine (reduce_e _ _ _ _ _ hs ⟨by decide, by decide⟩ _).mono ?_
  rintro e w2 ⟨z, rfl, hz', HZ, hb⟩
  replace HB : Hid (Below w.heap.size w w2) := HB.out.trans (hb.mono (by omega))
  have dc0' : w2.cell? ⟨w.heap.size + 2, 0, none⟩ = some (.int .u64 0) := cell_later hb (by simp [go_sem, dc0])
  have df0' : w2.frozen? ⟨w.heap.size + 2, 0, none⟩ = false := froz_later hb (by first | omega | (simp <;> omega)) (by simp [go_sem, df0])
  have dc1' : w2.cell? ⟨w.heap.size + 2, 1, none⟩ = some (.int .u64 0) := cell_later hb (by simp [go_sem, dc1])
  have df1' : w2.frozen? ⟨w.heap.size + 2, 1, none⟩ = false := froz_later hb (by first | omega | (simp <;> omega)) (by simp [go_sem, df1])
  have dc2' : w2.cell? ⟨w.heap.size + 2, 2, none⟩ = some (.int .u64 0) := cell_later hb (by simp [go_sem, dc2])
  have df2' : w2.frozen? ⟨w.heap.size + 2, 2, none⟩ = false := froz_later hb (by first | omega | (simp <;> omega)) (by simp [go_sem, df2])
  have dc3' : w2.cell? ⟨w.heap.size + 2, 3, none⟩ = some (.int .u64 0) := cell_later hb (by simp [go_sem, dc3])
  have df3' : w2.frozen? ⟨w.heap.size + 2, 3, none⟩ = false := froz_later hb (by first | omega | (simp <;> omega)) (by simp [go_sem, df3])
  clear dc0 df0 dc1 df1 dc2 df2 dc3 df3 hb
  have dc0 := dc0'
  have df0 := df0'
  have dc1 := dc1'
  have df1 := df1'
  have dc2 := dc2'
  have df2 := df2'
  have dc3 := dc3'
  have df3 := df3'
  clear dc0' df0' dc1' df1' dc2' df2' dc3' df3'
  go_wp2
  refine bodyPost_ret (v := (.agg #[.int .u64 (e0 z), .int .u64 (e1 z), .int .u64 (e2 z), .int .u64 (e3 z)])) (by simp [results, Tryd.results49, go_sem, dc0, dc1, dc2, dc3]) rfl ⟨_, rfl, ?_, ?_, ?_⟩
  · exact hz'
  · have := HZ.out
    unfold Hid
    rw [this, HE.out]
    congr 1
    omega
  · exact ((((HB.out.setCell (by dsimp only; omega) _).setCell (by dsimp only; omega) _).setCell (by dsimp only; omega) _).setCell (by dsimp only; omega) _)

set_option maxHeartbeats 1000000 in
theorem sub_e (x y : Int) (hx : El x) (hy : El y) (w : World) :
    Calls Tryd.prog 30 #[(.agg #[.int .u64 (e0 x), .int .u64 (e1 x), .int .u64 (e2 x), .int .u64 (e3 x)]), (.agg #[.int .u64 (e0 y), .int .u64 (e1 y), .int .u64 (e2 y), .int .u64 (e3 y)])] w fun e w' => ∃ z, e = .returned (.agg #[.int .u64 (e0 z), .int .u64 (e1 z), .int .u64 (e2 z), .int .u64 (e3 z)]) ∧ El z ∧ Hid (z = (x - y) % 57896044618658097711785492504343953926634992332820282019728792003956564819949) ∧ Below w.heap.size w w' := by
  have HX : Hid (vl (e0 x) (e1 x) (e2 x) (e3 x) = x) := hx.vl
  have HY : Hid (vl (e0 y) (e1 y) (e2 y) (e3 y) = y) := hy.vl
  go_enter Tryd.func30, Tryd.ntmps30
  go_wp2_with fail
  have xc0' : (((w.alloc (.cells #[.int .u64 (e0 x), .int .u64 (e1 x), .int .u64 (e2 x), .int .u64 (e3 x)] 28)).alloc (.cells #[.int .u64 (e0 y), .int .u64 (e1 y), .int .u64 (e2 y), .int .u64 (e3 y)] 28)).alloc (.cells #[.int .u64 0, .int .u64 0, .int .u64 0, .int .u64 0] 28)).cell? ⟨w.heap.size, 0, none⟩ = some (.int .u64 (e0 x)) := by simp [go_sem]
  have xc1' : (((w.alloc (.cells #[.int .u64 (e0 x), .int .u64 (e1 x), .int .u64 (e2 x), .int .u64 (e3 x)] 28)).alloc (.cells #[.int .u64 (e0 y), .int .u64 (e1 y), .int .u64 (e2 y), .int .u64 (e3 y)] 28)).alloc (.cells #[.int .u64 0, .int .u64 0, .int .u64 0, .int .u64 0] 28)).cell? ⟨w.heap.size, 1, none⟩ = some (.int .u64 (e1 x)) := by simp [go_sem]
  have xc2' : (((w.alloc (.cells #[.int .u64 (e0 x), .int .u64 (e1 x), .int .u64 (e2 x), .int .u64 (e3 x)] 28)).alloc (.cells #[.int .u64 (e0 y), .int .u64 (e1 y), .int .u64 (e2 y), .int .u64 (e3 y)] 28)).alloc (.cells #[.int .u64 0, .int .u64 0, .int .u64 0, .int .u64 0] 28)).cell? ⟨w.heap.size, 2, none⟩ = some (.int .u64 (e2 x)) := by simp [go_sem]
  have xc3' : (((w.alloc (.cells #[.int .u64 (e0 x), .int .u64 (e1 x), .int .u64 (e2 x), .int .u64 (e3 x)] 28)).alloc (.cells #[.int .u64 (e0 y), .int .u64 (e1 y), .int .u64 (e2 y), .int .u64 (e3 y)] 28)).alloc (.cells #[.int .u64 0, .int .u64 0, .int .u64 0, .int .u64 0] 28)).cell? ⟨w.heap.size, 3, none⟩ = some (.int .u64 (e3 x)) := by simp [go_sem]
  have yc0' : (((w.alloc (.cells #[.int .u64 (e0 x), .int .u64 (e1 x), .int .u64 (e2 x), .int .u64 (e3 x)] 28)).alloc (.cells #[.int .u64 (e0 y), .int .u64 (e1 y), .int .u64 (e2 y), .int .u64 (e3 y)] 28)).alloc (.cells #[.int .u64 0, .int .u64 0, .int .u64 0, .int .u64 0] 28)).cell? ⟨w.heap.size + 1, 0, none⟩ = some (.int .u64 (e0 y)) := by simp [go_sem]
  have yc1' : (((w.alloc (.cells #[.int .u64 (e0 x), .int .u64 (e1 x), .int .u64 (e2 x), .int .u64 (e3 x)] 28)).alloc (.cells #[.int .u64 (e0 y), .int .u64 (e1 y), .int .u64 (e2 y), .int .u64 (e3 y)] 28)).alloc (.cells #[.int .u64 0, .int .u64 0, .int .u64 0, .int .u64 0] 28)).cell? ⟨w.heap.size + 1, 1, none⟩ = some (.int .u64 (e1 y)) := by simp [go_sem]
  have yc2' : (((w.alloc (.cells #[.int .u64 (e0 x), .int .u64 (e1 x), .int .u64 (e2 x), .int .u64 (e3 x)] 28)).alloc (.cells #[.int .u64 (e0 y), .int .u64 (e1 y), .int .u64 (e2 y), .int .u64 (e3 y)] 28)).alloc (.cells #[.int .u64 0, .int .u64 0, .int .u64 0, .int .u64 0] 28)).cell? ⟨w.heap.size + 1, 2, none⟩ = some (.int .u64 (e2 y)) := by simp [go_sem]
  have yc3' : (((w.alloc (.cells #[.int .u64 (e0 x), .int .u64 (e1 x), .int .u64 (e2 x), .int .u64 (e3 x)] 28)).alloc (.cells #[.int .u64 (e0 y), .int .u64 (e1 y), .int .u64 (e2 y), .int .u64 (e3 y)] 28)).alloc (.cells #[.int .u64 0, .int .u64 0, .int .u64 0, .int .u64 0] 28)).cell? ⟨w.heap.size + 1, 3, none⟩ = some (.int .u64 (e3 y)) := by simp [go_sem]
  have dc0' : (((w.alloc (.cells #[.int .u64 (e0 x), .int .u64 (e1 x), .int .u64 (e2 x), .int .u64 (e3 x)] 28)).alloc (.cells #[.int .u64 (e0 y), .int .u64 (e1 y), .int .u64 (e2 y), .int .u64 (e3 y)] 28)).alloc (.cells #[.int .u64 0, .int .u64 0, .int .u64 0, .int .u64 0] 28)).cell? ⟨w.heap.size + 2, 0, none⟩ = some (.int .u64 0) := by simp [go_sem]
  have df0' : (((w.alloc (.cells #[.int .u64 (e0 x), .int .u64 (e1 x), .int .u64 (e2 x), .int .u64 (e3 x)] 28)).alloc (.cells #[.int .u64 (e0 y), .int .u64 (e1 y), .int .u64 (e2 y), .int .u64 (e3 y)] 28)).alloc (.cells #[.int .u64 0, .int .u64 0, .int .u64 0, .int .u64 0] 28)).frozen? ⟨w.heap.size + 2, 0, none⟩ = false := by simp [go_sem]
  have dc1' : (((w.alloc (.cells #[.int .u64 (e0 x), .int .u64 (e1 x), .int .u64 (e2 x), .int .u64 (e3 x)] 28)).alloc (.cells #[.int .u64 (e0 y), .int .u64 (e1 y), .int .u64 (e2 y), .int .u64 (e3 y)] 28)).alloc (.cells #[.int .u64 0, .int .u64 0, .int .u64 0, .int .u64 0] 28)).cell? ⟨w.heap.size + 2, 1, none⟩ = some (.int .u64 0) := by simp [go_sem]
  have df1' : (((w.alloc (.cells #[.int .u64 (e0 x), .int .u64 (e1 x), .int .u64 (e2 x), .int .u64 (e3 x)] 28)).alloc (.cells #[.int .u64 (e0 y), .int .u64 (e1 y), .int .u64 (e2 y), .int .u64 (e3 y)] 28)).alloc (.cells #[.int .u64 0, .int .u64 0, .int .u64 0, .int .u64 0] 28)).frozen? ⟨w.heap.size + 2, 1, none⟩ = false := by simp [go_sem]
  have dc2' : (((w.alloc (.cells #[.int .u64 (e0 x), .int .u64 (e1 x), .int .u64 (e2 x), .int .u64 (e3 x)] 28)).alloc (.cells #[.int .u64 (e0 y), .int .u64 (e1 y), .int .u64 (e2 y), .int .u64 (e3 y)] 28)).alloc (.cells #[.int .u64 0, .int .u64 0, .int .u64 0, .int .u64 0] 28)).cell? ⟨w.heap.size + 2, 2, none⟩ = some (.int .u64 0) := by simp [go_sem]
  have df2' : (((w.alloc (.cells #[.int .u64 (e0 x), .int .u64 (e1 x), .int .u64 (e2 x), .int .u64 (e3 x)] 28)).alloc (.cells #[.int .u64 (e0 y), .int .u64 (e1 y), .int .u64 (e2 y), .int .u64 (e3 y)] 28)).alloc (.cells #[.int .u64 0, .int .u64 0, .int .u64 0, .int .u64 0] 28)).frozen? ⟨w.heap.size + 2, 2, none⟩ = false := by simp [go_sem]
  have dc3' : (((w.alloc (.cells #[.int .u64 (e0 x), .int .u64 (e1 x), .int .u64 (e2 x), .int .u64 (e3 x)] 28)).alloc (.cells #[.int .u64 (e0 y), .int .u64 (e1 y), .int .u64 (e2 y), .int .u64 (e3 y)] 28)).alloc (.cells #[.int .u64 0, .int .u64 0, .int .u64 0, .int .u64 0] 28)).cell? ⟨w.heap.size + 2, 3, none⟩ = some (.int .u64 0) := by simp [go_sem]
  have df3' : (((w.alloc (.cells #[.int .u64 (e0 x), .int .u64 (e1 x), .int .u64 (e2 x), .int .u64 (e3 x)] 28)).alloc (.cells #[.int .u64 (e0 y), .int .u64 (e1 y), .int .u64 (e2 y), .int .u64 (e3 y)] 28)).alloc (.cells #[.int .u64 0, .int .u64 0, .int .u64 0, .int .u64 0] 28)).frozen? ⟨w.heap.size + 2, 3, none⟩ = false := by simp [go_sem]
  have HB' : Hid (Below w.heap.size w (((w.alloc (.cells #[.int .u64 (e0 x), .int .u64 (e1 x), .int .u64 (e2 x), .int .u64 (e3 x)] 28)).alloc (.cells #[.int .u64 (e0 y), .int .u64 (e1 y), .int .u64 (e2 y), .int .u64 (e3 y)] 28)).alloc (.cells #[.int .u64 0, .int .u64 0, .int .u64 0, .int .u64 0] 28))) := bel3 _ _ _ _
  have hz' : w.heap.size + 2 < (((w.alloc (.cells #[.int .u64 (e0 x), .int .u64 (e1 x), .int .u64 (e2 x), .int .u64 (e3 x)] 28)).alloc (.cells #[.int .u64 (e0 y), .int .u64 (e1 y), .int .u64 (e2 y), .int .u64 (e3 y)] 28)).alloc (.cells #[.int .u64 0, .int .u64 0, .int .u64 0, .int .u64 0] 28)).heap.size := by simp <;> omega
  generalize ((w.alloc (.cells #[.int .u64 (e0 x), .int .u64 (e1 x), .int .u64 (e2 x), .int .u64 (e3 x)] 28)).alloc (.cells #[.int .u64 (e0 y), .int .u64 (e1 y), .int .u64 (e2 y), .int .u64 (e3 y)] 28)).alloc (.cells #[.int .u64 0, .int .u64 0, .int .u64 0, .int .u64 0] 28) = W at *
  have xc0 := xc0'
  have xc1 := xc1'
  have xc2 := xc2'
  have xc3 := xc3'
  have yc0 := yc0'
  have yc1 := yc1'
  have yc2 := yc2'
  have yc3 := yc3'
  have dc0 := dc0'
  have df0 := df0'
  have dc1 := dc1'
  have df1 := df1'
  have dc2 := dc2'
  have df2 := df2'
  have dc3 := dc3'
  have df3 := df3'
  have HB := HB'
  have hz := hz'
  clear xc0' xc1' xc2' xc3' yc0' yc1' yc2' yc3' dc0' df0' dc1' df1' dc2' df2' dc3' df3' HB' hz'
  have xu0 : ∀ u, ExtB (w.heap.size + 2) W u → u.cell? ⟨w.heap.size, 0, none⟩ = some (.int .u64 (e0 x)) := fun u hu => hu.cell (by omega) xc0
  have xu1 : ∀ u, ExtB (w.heap.size + 2) W u → u.cell? ⟨w.heap.size, 1, none⟩ = some (.int .u64 (e1 x)) := fun u hu => hu.cell (by omega) xc1
  have xu2 : ∀ u, ExtB (w.heap.size + 2) W u → u.cell? ⟨w.heap.size, 2, none⟩ = some (.int .u64 (e2 x)) := fun u hu => hu.cell (by omega) xc2
  have xu3 : ∀ u, ExtB (w.heap.size + 2) W u → u.cell? ⟨w.heap.size, 3, none⟩ = some (.int .u64 (e3 x)) := fun u hu => hu.cell (by omega) xc3
  have yu0 : ∀ u, ExtB (w.heap.size + 2) W u → u.cell? ⟨w.heap.size + 1, 0, none⟩ = some (.int .u64 (e0 y)) := fun u hu => hu.cell (by omega) yc0
  have yu1 : ∀ u, ExtB (w.heap.size + 2) W u → u.cell? ⟨w.heap.size + 1, 1, none⟩ = some (.int .u64 (e1 y)) := fun u hu => hu.cell (by omega) yc1
  have yu2 : ∀ u, ExtB (w.heap.size + 2) W u → u.cell? ⟨w.heap.size + 1, 2, none⟩ = some (.int .u64 (e2 y)) := fun u hu => hu.cell (by omega) yc2
  have yu3 : ∀ u, ExtB (w.heap.size + 2) W u → u.cell? ⟨w.heap.size + 1, 3, none⟩ = some (.int .u64 (e3 y)) := fun u hu => hu.cell (by omega) yc3
  refine wp_region_noPanic ?_
  refine wp_region_held_drew (S := ExtB (w.heap.size + 2) W) (by kernel_rfl) (ExtB.refl _ _).drew (fun hH => ?_)
  refine wpAnyH_take (i := 0) (oi := ?o0) (v := ?v0) ?h0 (by kernel_rfl) ?f0 ?r0 (fun _ _ _ h => h) (Or.inl ⟨?w0, ?y0⟩) (by assumption) ?t0
  case h0 => simp only [List.getElem?_toArray, List.getElem?_cons_zero]; rfl
  case f0 => kernel_rfl
  case r0 => kernel_rfl
  case w0 => rfl
  case y0 => (intro u hu; (go_simp) <;> with_reducible rfl)
  try simp only [Act.put, List.setIfInBounds_toArray, List.set_cons_zero, List.set_cons_succ]
  refine wpAnyH_take (i := 1) (oi := ?o1) (v := ?v1) ?h1 (by kernel_rfl) ?f1 ?r1 (fun _ _ _ h => h) (Or.inl ⟨?w1, ?y1⟩) (by assumption) ?t1
  case h1 => simp only [List.getElem?_toArray, List.getElem?_cons_succ, List.getElem?_cons_zero]; rfl
  case f1 => kernel_rfl
  case r1 => kernel_rfl
  case w1 => rfl
  case y1 => (intro u hu; (go_simp) <;> with_reducible rfl)
  try simp only [Act.put, List.setIfInBounds_toArray, List.set_cons_zero, List.set_cons_succ]
  refine wpAnyH_take (i := 2) (oi := ?o2) (v := ?v2) ?h2 (by kernel_rfl) ?f2 ?r2 (fun _ _ _ h => h) (Or.inl ⟨?w2, ?y2⟩) (by assumption) ?t2
  case h2 => simp only [List.getElem?_toArray, List.getElem?_cons_succ, List.getElem?_cons_zero]; rfl
  case f2 => kernel_rfl
  case r2 => kernel_rfl
  case w2 => rfl
  case y2 => (intro u hu; (go_simp) <;> with_reducible rfl)
  try simp only [Act.put, List.setIfInBounds_toArray, List.set_cons_zero, List.set_cons_succ]
  refine wpAnyH_take (i := 3) (oi := ?o3) (v := ?v3) ?h3 (by kernel_rfl) ?f3 ?r3 (fun _ _ _ h => h) (Or.inl ⟨?w3, ?y3⟩) (by assumption) ?t3
  case h3 => simp only [List.getElem?_toArray, List.getElem?_cons_succ, List.getElem?_cons_zero]; rfl
  case f3 => kernel_rfl
  case r3 => kernel_rfl
  case w3 => rfl
  case y3 => (intro u hu; (go_simp) <;> with_reducible rfl)
  try simp only [Act.put, List.setIfInBounds_toArray, List.set_cons_zero, List.set_cons_succ]
  refine wpAnyH_ready (rs := [4]) (by kernel_rfl) (by simp) ?_
  refine AllReadyH.cons (o := ?o4) ?h4 (fun K hK => ?_) AllReadyH.nil
  case h4 => simp only [List.getElem?_toArray, List.getElem?_cons_succ, List.getElem?_cons_zero]; rfl
  go_simp
  refine (negated_any _ _ _ _ hy.wd (by rw [HY.out]; exact hy.h1) _).mono ?_
  rintro e w1 ⟨s0, s1, s2, s3, rfl, hs, he, hb1⟩
  have HE : Hid (vl s0 s1 s2 s3 = 57896044618658097711785492504343953926634992332820282019728792003956564819949 - y) := by
    unfold Hid
    rw [he, HY.out]
  refine hK.out _ _ (hH.trans hb1) (fun hH' => ?_)
  clear hK K hH
  have hH := hH'
  clear hH'
  try simp only [Act.put, List.setIfInBounds_toArray, List.set_cons_zero, List.set_cons_succ]
  clear he
  refine wpAnyH_ready (rs := [5]) (by kernel_rfl) (by simp) ?_
  refine AllReadyH.cons (o := ?o5) ?h5 (fun K hK => ?_) AllReadyH.nil
  case h5 => simp only [List.getElem?_toArray, List.getElem?_cons_succ, List.getElem?_cons_zero]; rfl
  go_simp
  refine (plus_any _ _ _ _ _ _ _ _ hx.wd hs _).mono ?_
  rintro e w2 ⟨r0, r1, r2, r3, rfl, hr, he, hb2⟩
  have HE2 : Hid (vl r0 r1 r2 r3 = x + 57896044618658097711785492504343953926634992332820282019728792003956564819949 - y) := by
    unfold Hid
    rw [he, HX.out, HE.out]
    obtain ⟨_, _⟩ := hx
    obtain ⟨_, _⟩ := hy
    omega
  refine hK.out _ _ (hH.trans hb2) (fun hH' => ?_)
  clear hK K hH
  have hH := hH'
  clear hH'
  try simp only [Act.put, List.setIfInBounds_toArray, List.set_cons_zero, List.set_cons_succ]
  clear he
  refine wpAnyH_ready (rs := [6]) (by kernel_rfl) (by simp) ?_
  refine AllReadyH.cons (o := ?o6) ?h6 (fun K hK => ?_) AllReadyH.nil
  case h6 => simp only [List.getElem?_toArray, List.getElem?_cons_succ, List.getElem?_cons_zero]; rfl
  go_simp
  refine (reduce_e _ _ _ _ _ hr ⟨by decide, by decide⟩ _).mono ?_
  rintro e w3 ⟨z, rfl, hz', HZ, hb3⟩
  refine hK.out _ _ (hH.trans hb3) (fun hH' => ?_)
  clear hK K hH
  have hH := hH'
  clear hH'
  try simp only [Act.put, List.setIfInBounds_toArray, List.set_cons_zero, List.set_cons_succ]
  have hb : Below W.heap.size W w3 := (((Below.refl _ _).drew.trans (hb1.mono (Nat.le_refl _))).trans (hb2.mono (by have := hb1.size; exact this))).trans (hb3.mono (by have := hb1.size; have := hb2.size; simp at *; omega))
  have dc0' : w3.cell? ⟨w.heap.size + 2, 0, none⟩ = some (.int .u64 0) := cell_later hb (by simp [go_sem, dc0])
  have df0' : w3.frozen? ⟨w.heap.size + 2, 0, none⟩ = false := froz_later hb (by first | omega | (simp <;> omega)) (by simp [go_sem, df0])
  have dc1' : w3.cell? ⟨w.heap.size + 2, 1, none⟩ = some (.int .u64 0) := cell_later hb (by simp [go_sem, dc1])
  have df1' : w3.frozen? ⟨w.heap.size + 2, 1, none⟩ = false := froz_later hb (by first | omega | (simp <;> omega)) (by simp [go_sem, df1])
  have dc2' : w3.cell? ⟨w.heap.size + 2, 2, none⟩ = some (.int .u64 0) := cell_later hb (by simp [go_sem, dc2])
  have df2' : w3.frozen? ⟨w.heap.size + 2, 2, none⟩ = false := froz_later hb (by first | omega | (simp <;> omega)) (by simp [go_sem, df2])
  have dc3' : w3.cell? ⟨w.heap.size + 2, 3, none⟩ = some (.int .u64 0) := cell_later hb (by simp [go_sem, dc3])
  have df3' : w3.frozen? ⟨w.heap.size + 2, 3, none⟩ = false := froz_later hb (by first | omega | (simp <;> omega)) (by simp [go_sem, df3])
  clear dc0 df0 dc1 df1 dc2 df2 dc3 df3 hb
  have dc0 := dc0'
  have df0 := df0'
  have dc1 := dc1'
  have df1 := df1'
  have dc2 := dc2'
  have df2 := df2'
  have dc3 := dc3'
  have df3 := df3'
  clear dc0' df0' dc1' df1' dc2' df2' dc3' df3'
  refine wpAnyH_ready (rs := [7]) (by kernel_rfl) (by simp) ?_
  refine AllReadyH.cons (o := ?o7) ?h7 (fun K hK => ?_) AllReadyH.nil
  case h7 => simp only [List.getElem?_toArray, List.getElem?_cons_succ, List.getElem?_cons_zero]; rfl
  go_simp
  refine hK.out _ _ ((((hH.set _ _).set _ _).set _ _).set _ _) (fun hH' => ?_)
  clear hK K hH
  have hH := hH'
  clear hH'
  try simp only [Act.put, List.setIfInBounds_toArray, List.set_cons_zero, List.set_cons_succ]
  refine wpAnyH_done (by kernel_rfl) ?_ _
  refine NoPanic.normal ?_
  go_wp2
  refine bodyPost_ret (v := (.agg #[.int .u64 (e0 z), .int .u64 (e1 z), .int .u64 (e2 z), .int .u64 (e3 z)])) (by simp [results, Tryd.results30, go_sem, dc0, dc1, dc2, dc3]) rfl ⟨_, rfl, hz', ?_, ?_⟩
  · have := HZ.out
    unfold Hid
    rw [this, HE2.out]
    have e : x + 57896044618658097711785492504343953926634992332820282019728792003956564819949 - y + 0 * 115792089237316195423570985008687907853269984665640564039457584007913129639936 = x - y + 57896044618658097711785492504343953926634992332820282019728792003956564819949 := by omega
    rw [e, Int.add_emod_right]
  · exact hH.below HB.out (by omega)

set_option maxHeartbeats 1000000 in
theorem zero_e (w : World) : Calls Tryd.prog 31 #[] w fun e w' => e = .returned (.agg #[.int .u64 (e0 0), .int .u64 (e1 0), .int .u64 (e2 0), .int .u64 (e3 0)]) ∧ Below w.heap.size w w' := by
  go_enter Tryd.func31, Tryd.ntmps31
  go_wp2
  refine bodyPost_ret (v := (.agg #[.int .u64 (e0 0), .int .u64 (e1 0), .int .u64 (e2 0), .int .u64 (e3 0)])) (by simp [results, Tryd.results31, go_sem, e0, e1, e2, e3]) rfl ⟨rfl, bel1 _ _⟩

set_option maxHeartbeats 1000000 in
theorem one_e (w : World) : Calls Tryd.prog 32 #[] w fun e w' => e = .returned (.agg #[.int .u64 (e0 1), .int .u64 (e1 1), .int .u64 (e2 1), .int .u64 (e3 1)]) ∧ Below w.heap.size w w' := by
  go_enter Tryd.func32, Tryd.ntmps32
  go_wp2
  refine bodyPost_ret (v := (.agg #[.int .u64 (e0 1), .int .u64 (e1 1), .int .u64 (e2 1), .int .u64 (e3 1)])) (by simp [results, Tryd.results32, go_sem, e0, e1, e2, e3]) rfl ⟨rfl, bel1 _ _⟩

set_option maxHeartbeats 1000000 in
theorem small_e (x n : Int) (hx : El x) (hn : 0 ≤ n ∧ n < 4294967296) (w : World) :
    Calls Tryd.prog 56 #[(.agg #[.int .u64 (e0 x), .int .u64 (e1 x), .int .u64 (e2 x), .int .u64 (e3 x)]), .int .u32 n] w fun e w' => ∃ z, e = .returned (.agg #[.int .u64 (e0 z), .int .u64 (e1 z), .int .u64 (e2 z), .int .u64 (e3 z)]) ∧ El z ∧ Hid (z = (x * n) % 57896044618658097711785492504343953926634992332820282019728792003956564819949) ∧ Below w.heap.size w w' := by
  have HX : Hid (vl (e0 x) (e1 x) (e2 x) (e3 x) = x) := hx.vl
  obtain ⟨n0, n1⟩ := hn
  have z : Wd 0 := ⟨by decide, by decide⟩
  go_enter Tryd.func56, Tryd.ntmps56
  go_wp2_with fail
  refine (row_any _ _ _ _ _ _ _ _ _ ⟨z, z, z, z⟩ ⟨n0, by omega⟩ hx.wd _).mono ?_
  rintro e w1 ⟨l, h0, h1, h2, h3, rfl, hl, hh, HE, hb⟩
  have HB : Hid (Below w.heap.size w w1) := (bel2 _ _ _).trans (hb.mono (by simp; omega))
  have hz : w.heap.size + 1 < w1.heap.size := by have := hb.size; simp at this; omega
  have HV : Hid (l + vl h0 h1 h2 h3 * 18446744073709551616 = x * n) := by
    have := HE.out
    unfold Hid
    rw [this, HX.out]
    have e : vl 0 0 0 0 = 0 := by decide
    rw [e, Int.zero_add, Int.mul_comm]
  have b3 : h3 < 288230376151711744 := by
    have := HV.out
    have h1 : x * n ≤ 57896044618658097711785492504343953926634992332820282019728792003956564819949 * 4294967296 := Int.mul_le_mul (by have := hx.h1; omega) (by omega) n0 (by decide)
    obtain ⟨⟨_, _⟩, ⟨_, _⟩, ⟨_, _⟩, ⟨_, _⟩⟩ := hh
    obtain ⟨_, _⟩ := hl
    unfold vl at this
    omega
  have dc0' : w1.cell? ⟨w.heap.size + 1, 0, none⟩ = some (.int .u64 0) := cell_later hb (by simp [go_sem])
  have df0' : w1.frozen? ⟨w.heap.size + 1, 0, none⟩ = false := froz_later hb (by first | omega | (simp <;> omega)) (by simp [go_sem])
  have dc1' : w1.cell? ⟨w.heap.size + 1, 1, none⟩ = some (.int .u64 0) := cell_later hb (by simp [go_sem])
  have df1' : w1.frozen? ⟨w.heap.size + 1, 1, none⟩ = false := froz_later hb (by first | omega | (simp <;> omega)) (by simp [go_sem])
  have dc2' : w1.cell? ⟨w.heap.size + 1, 2, none⟩ = some (.int .u64 0) := cell_later hb (by simp [go_sem])
  have df2' : w1.frozen? ⟨w.heap.size + 1, 2, none⟩ = false := froz_later hb (by first | omega | (simp <;> omega)) (by simp [go_sem])
  have dc3' : w1.cell? ⟨w.heap.size + 1, 3, none⟩ = some (.int .u64 0) := cell_later hb (by simp [go_sem])
  have df3' : w1.frozen? ⟨w.heap.size + 1, 3, none⟩ = false := froz_later hb (by first | omega | (simp <;> omega)) (by simp [go_sem])
  clear hb HE
  have dc0 := dc0'
  have df0 := df0'
  have dc1 := dc1'
  have df1 := df1'
  have dc2 := dc2'
  have df2 := df2'
  have dc3 := dc3'
  have df3 := df3'
  clear dc0' df0' dc1' df1' dc2' df2' dc3' df3'
  go_wp2_with fail
  refine (reduceFive_any _ _ _ _ _ hl hh b3 _).mono ?_
  rintro e w2 ⟨z, rfl, hz', HZ, hb⟩
  replace HB : Hid (Below w.heap.size w w2) := HB.out.trans (hb.mono (by omega))
  have dc0' : w2.cell? ⟨w.heap.size + 1, 0, none⟩ = some (.int .u64 0) := cell_later hb (by simp [go_sem, dc0])
  have df0' : w2.frozen? ⟨w.heap.size + 1, 0, none⟩ = false := froz_later hb (by first | omega | (simp <;> omega)) (by simp [go_sem, df0])
  have dc1' : w2.cell? ⟨w.heap.size + 1, 1, none⟩ = some (.int .u64 0) := cell_later hb (by simp [go_sem, dc1])
  have df1' : w2.frozen? ⟨w.heap.size + 1, 1, none⟩ = false := froz_later hb (by first | omega | (simp <;> omega)) (by simp [go_sem, df1])
  have dc2' : w2.cell? ⟨w.heap.size + 1, 2, none⟩ = some (.int .u64 0) := cell_later hb (by simp [go_sem, dc2])
  have df2' : w2.frozen? ⟨w.heap.size + 1, 2, none⟩ = false := froz_later hb (by first | omega | (simp <;> omega)) (by simp [go_sem, df2])
  have dc3' : w2.cell? ⟨w.heap.size + 1, 3, none⟩ = some (.int .u64 0) := cell_later hb (by simp [go_sem, dc3])
  have df3' : w2.frozen? ⟨w.heap.size + 1, 3, none⟩ = false := froz_later hb (by first | omega | (simp <;> omega)) (by simp [go_sem, df3])
  clear dc0 df0 dc1 df1 dc2 df2 dc3 df3 hb
  have dc0 := dc0'
  have df0 := df0'
  have dc1 := dc1'
  have df1 := df1'
  have dc2 := dc2'
  have df2 := df2'
  have dc3 := dc3'
  have df3 := df3'
  clear dc0' df0' dc1' df1' dc2' df2' dc3' df3'
  go_wp2
  refine bodyPost_ret (v := (.agg #[.int .u64 (e0 z), .int .u64 (e1 z), .int .u64 (e2 z), .int .u64 (e3 z)])) (by simp [results, Tryd.results56, go_sem, dc0, dc1, dc2, dc3]) rfl ⟨_, rfl, ?_, ?_, ?_⟩
  · exact hz'
  · have := HZ.out
    unfold Hid
    rw [this, HV.out]
  · exact ((((HB.out.setCell (by dsimp only; omega) _).setCell (by dsimp only; omega) _).setCell (by dsimp only; omega) _).setCell (by dsimp only; omega) _)
end Go.Proofs.YtggjifpcoidipaaDoor
