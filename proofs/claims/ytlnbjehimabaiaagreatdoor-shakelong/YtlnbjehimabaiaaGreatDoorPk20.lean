/-
  Several texts of one's own, laid together. No statement of the seat is proved here.
-/
import Derived.Test.YtlnbjehimabaiaaGreatDoorFRed
import Derived.Deep.RegionHeld3
import Derived.Test.YtlnbjehimabaiaaGreatDoorPk1
/-
 A region whose order is drawn, walked once: what is held of the world is that nothing has turned but one block. No statement of the seat is proved here.
-/
namespace Go.Proofs.YtlnbjehimabaiaaGreatDoor.Fc
open Go.RowKit
set_option maxRecDepth 8000

/-- Nothing that was there has turned, but for the block b. -/
structure ExtB (b : Nat) (w w' : World) : Prop where
 os : w'.os = w.os
 tape : w'.tape = w.tape
 output : w'.output = w.output
 size : w.heap.size ≤ w'.heap.size
 block : ∀ k, k < w.heap.size → k ≠ b → w'.heap[k]? = w.heap[k]?
theorem ExtB.refl (b : Nat) (w : World) : ExtB b w w := ⟨rfl, rfl, rfl, Nat.le_refl _, fun _ _ _ => rfl⟩
theorem ExtB.trans {b : Nat} {a u v : World} (h : ExtB b a u) (k : Below u.heap.size u v) : ExtB b a v :=
 ⟨k.os.trans h.os, k.tape.trans h.tape, k.output.trans h.output, Nat.le_trans h.size k.size, fun i hi hb => (k.block i (Nat.lt_of_lt_of_le hi h.size)).trans (h.block i hi hb)⟩
theorem ExtB.drew {b : Nat} {a u : World} (h : ExtB b a u) : ExtB b a u.drew := ⟨h.os, h.tape, h.output, h.size, h.block⟩
theorem ExtB.alloc {b : Nat} {a u : World} (h : ExtB b a u) (o : Obj) : ExtB b a (u.alloc o) := h.trans (bel1 u o)
theorem ExtB.set {b : Nat} {a u : World} (h : ExtB b a u) (o : Nat) (x : Value) : ExtB b a (u.setCell ⟨b, o, none⟩ x) :=
 ⟨h.os, h.tape, h.output, by simpa using h.size, fun k hk hb => by rw [Below.heap_setCell _ _ _ _ hb]; exact h.block k hk hb⟩
theorem ExtB.setNew {b : Nat} {a u : World} (h : ExtB b a u) (p : Addr) (hp : a.heap.size ≤ p.block) (x : Value) : ExtB b a (u.setCell p x) :=
 ⟨h.os, h.tape, h.output, by simpa using h.size, fun k hk hb => by rw [Below.heap_setCell _ _ _ _ (by omega)]; exact h.block k hk hb⟩
theorem ExtB.cell {b : Nat} {a u : World} (h : ExtB b a u) {k o : Nat} {v : Value} (hk : k ≠ b) (hc : a.cell? ⟨k, o, none⟩ = some v) : u.cell? ⟨k, o, none⟩ = some v := by
 rw [World.cell?_of_block (w := a) (h.block k (World.block_lt_of_cell? a _ hc) hk)]
 exact hc
theorem ExtB.below {b : Nat} {w a u : World} (h : ExtB b a u) (k : Below w.heap.size w a) (hb : w.heap.size ≤ b) : Below w.heap.size w u :=
 ⟨h.os.trans k.os, h.tape.trans k.tape, h.output.trans k.output, Nat.le_trans k.size h.size, fun i hi => (h.block i (Nat.lt_of_lt_of_le hi k.size) (by omega)).trans (k.block i hi)⟩
end Go.Proofs.YtlnbjehimabaiaaGreatDoor.Fc
/-
 Elements of the field by their numbers: what field's reduceFive, Add, Sub, Small, Mul, Zero, One, Equal do, for whatever numbers below p. No statement of the seat is proved here.
-/
namespace Go.Proofs.YtlnbjehimabaiaaGreatDoor.Fc
open Go.RowKit
set_option maxRecDepth 8000

/-- The limbs of a number. -/
def e0 (x : Int) : Int := x % 18446744073709551616
def e1 (x : Int) : Int := x / 18446744073709551616 % 18446744073709551616
def e2 (x : Int) : Int := x / 340282366920938463463374607431768211456 % 18446744073709551616
def e3 (x : Int) : Int := x / 6277101735386680763835789423207666416102355444464034512896
abbrev ea (x : Int) : Array Value := #[.int .u64 (e0 x), .int .u64 (e1 x), .int .u64 (e2 x), .int .u64 (e3 x)]
/-- A number of the field: from 0 to p - 1. -/
structure El (x : Int) : Prop where
 h0 : 0 ≤ x
 h1 : x < 57896044618658097711785492504343953926634992332820282019728792003956564819949
theorem El.wd {x : Int} (h : El x) : Wd4 (e0 x) (e1 x) (e2 x) (e3 x) := by
 obtain ⟨h0, h1⟩ := h
 unfold e0 e1 e2 e3
 exact ⟨⟨by omega, by omega⟩, ⟨by omega, by omega⟩, ⟨by omega, by omega⟩, ⟨by omega, by omega⟩⟩
theorem El.vl {x : Int} (h : El x) : vl (e0 x) (e1 x) (e2 x) (e3 x) = x := by
 obtain ⟨h0, h1⟩ := h
 unfold e0 e1 e2 e3 Fc.vl
 omega
theorem e_of {s0 s1 s2 s3 z : Int} (h : Wd4 s0 s1 s2 s3) (hz : vl s0 s1 s2 s3 = z) : s0 = e0 z ∧ s1 = e1 z ∧ s2 = e2 z ∧ s3 = e3 z := by
 obtain ⟨⟨_, _⟩, ⟨_, _⟩, ⟨_, _⟩, ⟨_, _⟩⟩ := h
 subst hz
 unfold e0 e1 e2 e3 Fc.vl
 exact ⟨by omega, by omega, by omega, by omega⟩
theorem El.mod (n : Int) : El (n % 57896044618658097711785492504343953926634992332820282019728792003956564819949) := ⟨by omega, by omega⟩
theorem El.zero : El 0 := ⟨by decide, by decide⟩
theorem El.one : El 1 := ⟨by decide, by decide⟩

theorem reduce_e (a0 a1 a2 a3 h : Int) (ha : Wd4 a0 a1 a2 a3) (hh : 0 ≤ h ∧ h < 288230376151711744) (w : World) :
  Calls Tryz.prog 92 #[(.agg #[.int .u64 a0, .int .u64 a1, .int .u64 a2, .int .u64 a3]), .int .u64 h] w fun e w' =>
   ∃ z, e = .returned (.agg (ea z)) ∧ El z ∧ Hid (z = (vl a0 a1 a2 a3 + h * 115792089237316195423570985008687907853269984665640564039457584007913129639936) % 57896044618658097711785492504343953926634992332820282019728792003956564819949) ∧ Below w.heap.size w w' := by
 refine (reduce_any a0 a1 a2 a3 h ha hh w).mono ?_
 rintro e w' ⟨s0, s1, s2, s3, rfl, hs, H, hb⟩
 obtain ⟨q0, q1, q2, q3⟩ := e_of hs rfl
 refine ⟨_, ?_, ?_, H, hb⟩
 ·try dsimp only [ea]
  rw [← q0, ← q1, ← q2, ← q3]
 ·have := H.out
  rw [this]
  exact El.mod _

set_option maxHeartbeats 1000000 in
theorem reduceFive_any (l h0 h1 h2 h3 : Int) (hl : Wd l) (hh : Wd4 h0 h1 h2 h3) (h58 : h3 < 288230376151711744) (w : World) :
  Calls Tryz.prog 99 #[.int .u64 l, (.agg #[.int .u64 h0, .int .u64 h1, .int .u64 h2, .int .u64 h3])] w fun e w' =>
   ∃ z, e = .returned (.agg (ea z)) ∧ El z ∧ Hid (z = (l + vl h0 h1 h2 h3 * 18446744073709551616) % 57896044618658097711785492504343953926634992332820282019728792003956564819949) ∧ Below w.heap.size w w' := by
 obtain ⟨hh0, hh1, hh2, hh3⟩ := hh
 go_enter Tryz.func99, Tryz.ntmps99
 go_wp2_with fail
 refine (reduce_e _ _ _ _ _ ⟨hl, hh0, hh1, hh2⟩ ⟨hh3.1, h58⟩ _).mono ?_
 rintro e w1 ⟨z, rfl, hz, HZ, hb⟩
 have HB : Hid (Below w.heap.size w w1) := (bel2 _ _ _).trans (hb.mono (by simp; omega))
 have dc0' : w1.cell? ⟨w.heap.size + 1, 0, none⟩ = some (.int .u64 0) := cell_later hb (by simp [go_sem])
 have df0' : w1.frozen? ⟨w.heap.size + 1, 0, none⟩ = false := froz_later hb (by first | omega | (simp <;> omega)) (by simp [go_sem])
 have dc1' : w1.cell? ⟨w.heap.size + 1, 1, none⟩ = some (.int .u64 0) := cell_later hb (by simp [go_sem])
 have df1' : w1.frozen? ⟨w.heap.size + 1, 1, none⟩ = false := froz_later hb (by first | omega | (simp <;> omega)) (by simp [go_sem])
 have dc2' : w1.cell? ⟨w.heap.size + 1, 2, none⟩ = some (.int .u64 0) := cell_later hb (by simp [go_sem])
 have df2' : w1.frozen? ⟨w.heap.size + 1, 2, none⟩ = false := froz_later hb (by first | omega | (simp <;> omega)) (by simp [go_sem])
 have dc3' : w1.cell? ⟨w.heap.size + 1, 3, none⟩ = some (.int .u64 0) := cell_later hb (by simp [go_sem])
 have df3' : w1.frozen? ⟨w.heap.size + 1, 3, none⟩ = false := froz_later hb (by first | omega | (simp <;> omega)) (by simp [go_sem])
 clear hb
 have dc0 := dc0'
 have df0 := df0'
 have dc1 := dc1'
 have df1 := df1'
 have dc2 := dc2'
 have df2 := df2'
 have dc3 := dc3'
 have df3 := df3'
 clear dc0' df0' dc1' df1' dc2' df2' dc3' df3'
 go_wp2
 refine bodyPost_ret (v := (.agg (ea z))) (by simp [results, Tryz.results99, go_sem, dc0, dc1, dc2, dc3]) rfl ⟨_, rfl, ?_, ?_, ?_⟩
 ·exact hz
 ·have := HZ.out
  unfold Hid
  rw [this]
  congr 1
  unfold vl
  omega
 ·exact ((((HB.out.setCell (by dsimp only; omega) _).setCell (by dsimp only; omega) _).setCell (by dsimp only; omega) _).setCell (by dsimp only; omega) _)

set_option maxHeartbeats 1000000 in
theorem add_e (x y : Int) (hx : El x) (hy : El y) (w : World) :
  Calls Tryz.prog 94 #[(.agg (ea x)), (.agg (ea y))] w fun e w' => ∃ z, e = .returned (.agg (ea z)) ∧ El z ∧ Hid (z = (x + y) % 57896044618658097711785492504343953926634992332820282019728792003956564819949) ∧ Below w.heap.size w w' := by
 have HX : Hid (vl (e0 x) (e1 x) (e2 x) (e3 x) = x) := hx.vl
 have HY : Hid (vl (e0 y) (e1 y) (e2 y) (e3 y) = y) := hy.vl
 go_enter Tryz.func94, Tryz.ntmps94
 go_wp2_with fail
 refine (plus_any _ _ _ _ _ _ _ _ hx.wd hy.wd _).mono ?_
 rintro e w1 ⟨s0, s1, s2, s3, rfl, hs, he, hb⟩
 have HE : Hid (vl s0 s1 s2 s3 = x + y) := by
  unfold Hid
  rw [he, HX.out, HY.out]
  obtain ⟨_, _⟩ := hx
  obtain ⟨_, _⟩ := hy
  omega
 have HB : Hid (Below w.heap.size w w1) := (bel3 _ _ _ _).trans (hb.mono (by simp; omega))
 have hz : w.heap.size + 2 < w1.heap.size := by have := hb.size; simp at this; omega
 have dc0' : w1.cell? ⟨w.heap.size + 2, 0, none⟩ = some (.int .u64 0) := cell_later hb (by simp [go_sem])
 have df0' : w1.frozen? ⟨w.heap.size + 2, 0, none⟩ = false := froz_later hb (by first | omega | (simp <;> omega)) (by simp [go_sem])
 have dc1' : w1.cell? ⟨w.heap.size + 2, 1, none⟩ = some (.int .u64 0) := cell_later hb (by simp [go_sem])
 have df1' : w1.frozen? ⟨w.heap.size + 2, 1, none⟩ = false := froz_later hb (by first | omega | (simp <;> omega)) (by simp [go_sem])
 have dc2' : w1.cell? ⟨w.heap.size + 2, 2, none⟩ = some (.int .u64 0) := cell_later hb (by simp [go_sem])
 have df2' : w1.frozen? ⟨w.heap.size + 2, 2, none⟩ = false := froz_later hb (by first | omega | (simp <;> omega)) (by simp [go_sem])
 have dc3' : w1.cell? ⟨w.heap.size + 2, 3, none⟩ = some (.int .u64 0) := cell_later hb (by simp [go_sem])
 have df3' : w1.frozen? ⟨w.heap.size + 2, 3, none⟩ = false := froz_later hb (by first | omega | (simp <;> omega)) (by simp [go_sem])
 clear hb he
 have dc0 := dc0'
 have df0 := df0'
 have dc1 := dc1'
 have df1 := df1'
 have dc2 := dc2'
 have df2 := df2'
 have dc3 := dc3'
 have df3 := df3'
 clear dc0' df0' dc1' df1' dc2' df2' dc3' df3'
 go_wp2_with fail
 refine (reduce_e _ _ _ _ _ hs ⟨by decide, by decide⟩ _).mono ?_
 rintro e w2 ⟨z, rfl, hz', HZ, hb⟩
 replace HB : Hid (Below w.heap.size w w2) := HB.out.trans (hb.mono (by omega))
 have dc0' : w2.cell? ⟨w.heap.size + 2, 0, none⟩ = some (.int .u64 0) := cell_later hb (by simp [go_sem, dc0])
 have df0' : w2.frozen? ⟨w.heap.size + 2, 0, none⟩ = false := froz_later hb (by first | omega | (simp <;> omega)) (by simp [go_sem, df0])
 have dc1' : w2.cell? ⟨w.heap.size + 2, 1, none⟩ = some (.int .u64 0) := cell_later hb (by simp [go_sem, dc1])
 have df1' : w2.frozen? ⟨w.heap.size + 2, 1, none⟩ = false := froz_later hb (by first | omega | (simp <;> omega)) (by simp [go_sem, df1])
 have dc2' : w2.cell? ⟨w.heap.size + 2, 2, none⟩ = some (.int .u64 0) := cell_later hb (by simp [go_sem, dc2])
 have df2' : w2.frozen? ⟨w.heap.size + 2, 2, none⟩ = false := froz_later hb (by first | omega | (simp <;> omega)) (by simp [go_sem, df2])
 have dc3' : w2.cell? ⟨w.heap.size + 2, 3, none⟩ = some (.int .u64 0) := cell_later hb (by simp [go_sem, dc3])
 have df3' : w2.frozen? ⟨w.heap.size + 2, 3, none⟩ = false := froz_later hb (by first | omega | (simp <;> omega)) (by simp [go_sem, df3])
 clear dc0 df0 dc1 df1 dc2 df2 dc3 df3 hb
 have dc0 := dc0'
 have df0 := df0'
 have dc1 := dc1'
 have df1 := df1'
 have dc2 := dc2'
 have df2 := df2'
 have dc3 := dc3'
 have df3 := df3'
 clear dc0' df0' dc1' df1' dc2' df2' dc3' df3'
 go_wp2
 refine bodyPost_ret (v := (.agg (ea z))) (by simp [results, Tryz.results94, go_sem, dc0, dc1, dc2, dc3]) rfl ⟨_, rfl, ?_, ?_, ?_⟩
 ·exact hz'
 ·have := HZ.out
  unfold Hid
  rw [this, HE.out]
  congr 1
  omega
 ·exact ((((HB.out.setCell (by dsimp only; omega) _).setCell (by dsimp only; omega) _).setCell (by dsimp only; omega) _).setCell (by dsimp only; omega) _)

set_option maxHeartbeats 1000000 in
theorem sub_e (x y : Int) (hx : El x) (hy : El y) (w : World) :
  Calls Tryz.prog 95 #[(.agg (ea x)), (.agg (ea y))] w fun e w' => ∃ z, e = .returned (.agg (ea z)) ∧ El z ∧ Hid (z = (x - y) % 57896044618658097711785492504343953926634992332820282019728792003956564819949) ∧ Below w.heap.size w w' := by
 have HX : Hid (vl (e0 x) (e1 x) (e2 x) (e3 x) = x) := hx.vl
 have HY : Hid (vl (e0 y) (e1 y) (e2 y) (e3 y) = y) := hy.vl
 go_enter Tryz.func95, Tryz.ntmps95
 go_wp2_with fail
 have xc0' : (((w.alloc (.cells (ea x) 101)).alloc (.cells (ea y) 101)).alloc (.cells zq4 101)).cell? ⟨w.heap.size, 0, none⟩ = some (.int .u64 (e0 x)) := by simp [go_sem]
 have xc1' : (((w.alloc (.cells (ea x) 101)).alloc (.cells (ea y) 101)).alloc (.cells zq4 101)).cell? ⟨w.heap.size, 1, none⟩ = some (.int .u64 (e1 x)) := by simp [go_sem]
 have xc2' : (((w.alloc (.cells (ea x) 101)).alloc (.cells (ea y) 101)).alloc (.cells zq4 101)).cell? ⟨w.heap.size, 2, none⟩ = some (.int .u64 (e2 x)) := by simp [go_sem]
 have xc3' : (((w.alloc (.cells (ea x) 101)).alloc (.cells (ea y) 101)).alloc (.cells zq4 101)).cell? ⟨w.heap.size, 3, none⟩ = some (.int .u64 (e3 x)) := by simp [go_sem]
 have yc0' : (((w.alloc (.cells (ea x) 101)).alloc (.cells (ea y) 101)).alloc (.cells zq4 101)).cell? ⟨w.heap.size + 1, 0, none⟩ = some (.int .u64 (e0 y)) := by simp [go_sem]
 have yc1' : (((w.alloc (.cells (ea x) 101)).alloc (.cells (ea y) 101)).alloc (.cells zq4 101)).cell? ⟨w.heap.size + 1, 1, none⟩ = some (.int .u64 (e1 y)) := by simp [go_sem]
 have yc2' : (((w.alloc (.cells (ea x) 101)).alloc (.cells (ea y) 101)).alloc (.cells zq4 101)).cell? ⟨w.heap.size + 1, 2, none⟩ = some (.int .u64 (e2 y)) := by simp [go_sem]
 have yc3' : (((w.alloc (.cells (ea x) 101)).alloc (.cells (ea y) 101)).alloc (.cells zq4 101)).cell? ⟨w.heap.size + 1, 3, none⟩ = some (.int .u64 (e3 y)) := by simp [go_sem]
 have dc0' : (((w.alloc (.cells (ea x) 101)).alloc (.cells (ea y) 101)).alloc (.cells zq4 101)).cell? ⟨w.heap.size + 2, 0, none⟩ = some (.int .u64 0) := by simp [go_sem]
 have df0' : (((w.alloc (.cells (ea x) 101)).alloc (.cells (ea y) 101)).alloc (.cells zq4 101)).frozen? ⟨w.heap.size + 2, 0, none⟩ = false := by simp [go_sem]
 have dc1' : (((w.alloc (.cells (ea x) 101)).alloc (.cells (ea y) 101)).alloc (.cells zq4 101)).cell? ⟨w.heap.size + 2, 1, none⟩ = some (.int .u64 0) := by simp [go_sem]
 have df1' : (((w.alloc (.cells (ea x) 101)).alloc (.cells (ea y) 101)).alloc (.cells zq4 101)).frozen? ⟨w.heap.size + 2, 1, none⟩ = false := by simp [go_sem]
 have dc2' : (((w.alloc (.cells (ea x) 101)).alloc (.cells (ea y) 101)).alloc (.cells zq4 101)).cell? ⟨w.heap.size + 2, 2, none⟩ = some (.int .u64 0) := by simp [go_sem]
 have df2' : (((w.alloc (.cells (ea x) 101)).alloc (.cells (ea y) 101)).alloc (.cells zq4 101)).frozen? ⟨w.heap.size + 2, 2, none⟩ = false := by simp [go_sem]
 have dc3' : (((w.alloc (.cells (ea x) 101)).alloc (.cells (ea y) 101)).alloc (.cells zq4 101)).cell? ⟨w.heap.size + 2, 3, none⟩ = some (.int .u64 0) := by simp [go_sem]
 have df3' : (((w.alloc (.cells (ea x) 101)).alloc (.cells (ea y) 101)).alloc (.cells zq4 101)).frozen? ⟨w.heap.size + 2, 3, none⟩ = false := by simp [go_sem]
 have HB' : Hid (Below w.heap.size w (((w.alloc (.cells (ea x) 101)).alloc (.cells (ea y) 101)).alloc (.cells zq4 101))) := bel3 _ _ _ _
 have hz' : w.heap.size + 2 < (((w.alloc (.cells (ea x) 101)).alloc (.cells (ea y) 101)).alloc (.cells zq4 101)).heap.size := by simp <;> omega
 generalize ((w.alloc (.cells (ea x) 101)).alloc (.cells (ea y) 101)).alloc (.cells zq4 101) = W at *
 have xc0 := xc0'
 have xc1 := xc1'
 have xc2 := xc2'
 have xc3 := xc3'
 have yc0 := yc0'
 have yc1 := yc1'
 have yc2 := yc2'
 have yc3 := yc3'
 have dc0 := dc0'
 have df0 := df0'
 have dc1 := dc1'
 have df1 := df1'
 have dc2 := dc2'
 have df2 := df2'
 have dc3 := dc3'
 have df3 := df3'
 have HB := HB'
 have hz := hz'
 clear xc0' xc1' xc2' xc3' yc0' yc1' yc2' yc3' dc0' df0' dc1' df1' dc2' df2' dc3' df3' HB' hz'
 have xu0 : ∀ u, ExtB (w.heap.size + 2) W u → u.cell? ⟨w.heap.size, 0, none⟩ = some (.int .u64 (e0 x)) := fun u hu => hu.cell (by omega) xc0
 have xu1 : ∀ u, ExtB (w.heap.size + 2) W u → u.cell? ⟨w.heap.size, 1, none⟩ = some (.int .u64 (e1 x)) := fun u hu => hu.cell (by omega) xc1
 have xu2 : ∀ u, ExtB (w.heap.size + 2) W u → u.cell? ⟨w.heap.size, 2, none⟩ = some (.int .u64 (e2 x)) := fun u hu => hu.cell (by omega) xc2
 have xu3 : ∀ u, ExtB (w.heap.size + 2) W u → u.cell? ⟨w.heap.size, 3, none⟩ = some (.int .u64 (e3 x)) := fun u hu => hu.cell (by omega) xc3
 have yu0 : ∀ u, ExtB (w.heap.size + 2) W u → u.cell? ⟨w.heap.size + 1, 0, none⟩ = some (.int .u64 (e0 y)) := fun u hu => hu.cell (by omega) yc0
 have yu1 : ∀ u, ExtB (w.heap.size + 2) W u → u.cell? ⟨w.heap.size + 1, 1, none⟩ = some (.int .u64 (e1 y)) := fun u hu => hu.cell (by omega) yc1
 have yu2 : ∀ u, ExtB (w.heap.size + 2) W u → u.cell? ⟨w.heap.size + 1, 2, none⟩ = some (.int .u64 (e2 y)) := fun u hu => hu.cell (by omega) yc2
 have yu3 : ∀ u, ExtB (w.heap.size + 2) W u → u.cell? ⟨w.heap.size + 1, 3, none⟩ = some (.int .u64 (e3 y)) := fun u hu => hu.cell (by omega) yc3
 refine wp_region_noPanic ?_
 refine wp_region_held_drew (S := ExtB (w.heap.size + 2) W) (by kernel_rfl) (ExtB.refl _ _).drew (fun hH => ?_)
 refine tn 0 ?_
 refine tn 1 ?_
 refine tn 2 ?_
 refine tn 3 ?_
 refine rdy 4 (fun K hK => ?_)
 go_simp
 refine (negated_any _ _ _ _ hy.wd (by rw [HY.out]; exact hy.h1) _).mono ?_
 rintro e w1 ⟨s0, s1, s2, s3, rfl, hs, he, hb1⟩
 have HE : Hid (vl s0 s1 s2 s3 = 57896044618658097711785492504343953926634992332820282019728792003956564819949 - y) := by
  unfold Hid
  rw [he, HY.out]
 refine kop hK (hH.trans hb1) fun hH => ?_; clear hK K
 clear he
 refine rdy 5 (fun K hK => ?_)
 go_simp
 refine (plus_any _ _ _ _ _ _ _ _ hx.wd hs _).mono ?_
 rintro e w2 ⟨r0, r1, r2, r3, rfl, hr, he, hb2⟩
 have HE2 : Hid (vl r0 r1 r2 r3 = x + 57896044618658097711785492504343953926634992332820282019728792003956564819949 - y) := by
  unfold Hid
  rw [he, HX.out, HE.out]
  obtain ⟨_, _⟩ := hx
  obtain ⟨_, _⟩ := hy
  omega
 refine kop hK (hH.trans hb2) fun hH => ?_; clear hK K
 clear he
 refine rdy 6 (fun K hK => ?_)
 go_simp
 refine (reduce_e _ _ _ _ _ hr ⟨by decide, by decide⟩ _).mono ?_
 rintro e w3 ⟨z, rfl, hz', HZ, hb3⟩
 refine kop hK (hH.trans hb3) fun hH => ?_; clear hK K
 have hb : Below W.heap.size W w3 := (((Below.refl _ _).drew.trans (hb1.mono (Nat.le_refl _))).trans (hb2.mono (by have := hb1.size; exact this))).trans (hb3.mono (by have := hb1.size; have := hb2.size; simp at *; omega))
 have dc0' : w3.cell? ⟨w.heap.size + 2, 0, none⟩ = some (.int .u64 0) := cell_later hb (by simp [go_sem, dc0])
 have df0' : w3.frozen? ⟨w.heap.size + 2, 0, none⟩ = false := froz_later hb (by first | omega | (simp <;> omega)) (by simp [go_sem, df0])
 have dc1' : w3.cell? ⟨w.heap.size + 2, 1, none⟩ = some (.int .u64 0) := cell_later hb (by simp [go_sem, dc1])
 have df1' : w3.frozen? ⟨w.heap.size + 2, 1, none⟩ = false := froz_later hb (by first | omega | (simp <;> omega)) (by simp [go_sem, df1])
 have dc2' : w3.cell? ⟨w.heap.size + 2, 2, none⟩ = some (.int .u64 0) := cell_later hb (by simp [go_sem, dc2])
 have df2' : w3.frozen? ⟨w.heap.size + 2, 2, none⟩ = false := froz_later hb (by first | omega | (simp <;> omega)) (by simp [go_sem, df2])
 have dc3' : w3.cell? ⟨w.heap.size + 2, 3, none⟩ = some (.int .u64 0) := cell_later hb (by simp [go_sem, dc3])
 have df3' : w3.frozen? ⟨w.heap.size + 2, 3, none⟩ = false := froz_later hb (by first | omega | (simp <;> omega)) (by simp [go_sem, df3])
 clear dc0 df0 dc1 df1 dc2 df2 dc3 df3 hb
 have dc0 := dc0'
 have df0 := df0'
 have dc1 := dc1'
 have df1 := df1'
 have dc2 := dc2'
 have df2 := df2'
 have dc3 := dc3'
 have df3 := df3'
 clear dc0' df0' dc1' df1' dc2' df2' dc3' df3'
 refine rdy 7 (fun K hK => ?_)
 go_simp
 refine kop hK ((((hH.set _ _).set _ _).set _ _).set _ _) fun hH => ?_; clear hK K
 refine wpAnyH_done (by kernel_rfl) ?_ _
 refine NoPanic.normal ?_
 go_wp2
 refine bodyPost_ret (v := (.agg (ea z))) (by simp [results, Tryz.results95, go_sem, dc0, dc1, dc2, dc3]) rfl ⟨_, rfl, hz', ?_, ?_⟩
 ·have := HZ.out
  unfold Hid
  rw [this, HE2.out]
  have e : x + 57896044618658097711785492504343953926634992332820282019728792003956564819949 - y + 0 * 115792089237316195423570985008687907853269984665640564039457584007913129639936 = x - y + 57896044618658097711785492504343953926634992332820282019728792003956564819949 := by omega
  rw [e, Int.add_emod_right]
 ·exact hH.below HB.out (by omega)

set_option maxHeartbeats 1000000 in
theorem zero_e (w : World) : Calls Tryz.prog 66 #[] w fun e w' => e = .returned (.agg (ea 0)) ∧ Below w.heap.size w w' := by
 go_enter Tryz.func66, Tryz.ntmps66
 go_wp2
 refine bodyPost_ret (v := (.agg (ea 0))) (by simp [results, Tryz.results66, go_sem, e0, e1, e2, e3]) rfl ⟨rfl, bel1 _ _⟩

set_option maxHeartbeats 1000000 in
theorem one_e (w : World) : Calls Tryz.prog 65 #[] w fun e w' => e = .returned (.agg (ea 1)) ∧ Below w.heap.size w w' := by
 go_enter Tryz.func65, Tryz.ntmps65
 go_wp2
 refine bodyPost_ret (v := (.agg (ea 1))) (by simp [results, Tryz.results65, go_sem, e0, e1, e2, e3]) rfl ⟨rfl, bel1 _ _⟩

set_option maxHeartbeats 1000000 in
theorem small_e (x n : Int) (hx : El x) (hn : 0 ≤ n ∧ n < 4294967296) (w : World) :
  Calls Tryz.prog 135 #[(.agg (ea x)), .int .u32 n] w fun e w' => ∃ z, e = .returned (.agg (ea z)) ∧ El z ∧ Hid (z = (x * n) % 57896044618658097711785492504343953926634992332820282019728792003956564819949) ∧ Below w.heap.size w w' := by
 have HX : Hid (vl (e0 x) (e1 x) (e2 x) (e3 x) = x) := hx.vl
 obtain ⟨n0, n1⟩ := hn
 have z : Wd 0 := ⟨by decide, by decide⟩
 go_enter Tryz.func135, Tryz.ntmps135
 go_wp2_with fail
 refine (row_any _ _ _ _ _ _ _ _ _ ⟨z, z, z, z⟩ ⟨n0, by omega⟩ hx.wd _).mono ?_
 rintro e w1 ⟨l, h0, h1, h2, h3, rfl, hl, hh, HE, hb⟩
 have HB : Hid (Below w.heap.size w w1) := (bel2 _ _ _).trans (hb.mono (by simp; omega))
 have hz : w.heap.size + 1 < w1.heap.size := by have := hb.size; simp at this; omega
 have HV : Hid (l + vl h0 h1 h2 h3 * 18446744073709551616 = x * n) := by
  have := HE.out
  unfold Hid
  rw [this, HX.out]
  have e : vl 0 0 0 0 = 0 := by decide
  rw [e, Int.zero_add, Int.mul_comm]
 have b3 : h3 < 288230376151711744 := by
  have := HV.out
  have h1 : x * n ≤ 57896044618658097711785492504343953926634992332820282019728792003956564819949 * 4294967296 := Int.mul_le_mul (by have := hx.h1; omega) (by omega) n0 (by decide)
  obtain ⟨⟨_, _⟩, ⟨_, _⟩, ⟨_, _⟩, ⟨_, _⟩⟩ := hh
  obtain ⟨_, _⟩ := hl
  unfold vl at this
  omega
 have dc0' : w1.cell? ⟨w.heap.size + 1, 0, none⟩ = some (.int .u64 0) := cell_later hb (by simp [go_sem])
 have df0' : w1.frozen? ⟨w.heap.size + 1, 0, none⟩ = false := froz_later hb (by first | omega | (simp <;> omega)) (by simp [go_sem])
 have dc1' : w1.cell? ⟨w.heap.size + 1, 1, none⟩ = some (.int .u64 0) := cell_later hb (by simp [go_sem])
 have df1' : w1.frozen? ⟨w.heap.size + 1, 1, none⟩ = false := froz_later hb (by first | omega | (simp <;> omega)) (by simp [go_sem])
 have dc2' : w1.cell? ⟨w.heap.size + 1, 2, none⟩ = some (.int .u64 0) := cell_later hb (by simp [go_sem])
 have df2' : w1.frozen? ⟨w.heap.size + 1, 2, none⟩ = false := froz_later hb (by first | omega | (simp <;> omega)) (by simp [go_sem])
 have dc3' : w1.cell? ⟨w.heap.size + 1, 3, none⟩ = some (.int .u64 0) := cell_later hb (by simp [go_sem])
 have df3' : w1.frozen? ⟨w.heap.size + 1, 3, none⟩ = false := froz_later hb (by first | omega | (simp <;> omega)) (by simp [go_sem])
 clear hb HE
 have dc0 := dc0'
 have df0 := df0'
 have dc1 := dc1'
 have df1 := df1'
 have dc2 := dc2'
 have df2 := df2'
 have dc3 := dc3'
 have df3 := df3'
 clear dc0' df0' dc1' df1' dc2' df2' dc3' df3'
 go_wp2_with fail
 refine (reduceFive_any _ _ _ _ _ hl hh b3 _).mono ?_
 rintro e w2 ⟨z, rfl, hz', HZ, hb⟩
 replace HB : Hid (Below w.heap.size w w2) := HB.out.trans (hb.mono (by omega))
 have dc0' : w2.cell? ⟨w.heap.size + 1, 0, none⟩ = some (.int .u64 0) := cell_later hb (by simp [go_sem, dc0])
 have df0' : w2.frozen? ⟨w.heap.size + 1, 0, none⟩ = false := froz_later hb (by first | omega | (simp <;> omega)) (by simp [go_sem, df0])
 have dc1' : w2.cell? ⟨w.heap.size + 1, 1, none⟩ = some (.int .u64 0) := cell_later hb (by simp [go_sem, dc1])
 have df1' : w2.frozen? ⟨w.heap.size + 1, 1, none⟩ = false := froz_later hb (by first | omega | (simp <;> omega)) (by simp [go_sem, df1])
 have dc2' : w2.cell? ⟨w.heap.size + 1, 2, none⟩ = some (.int .u64 0) := cell_later hb (by simp [go_sem, dc2])
 have df2' : w2.frozen? ⟨w.heap.size + 1, 2, none⟩ = false := froz_later hb (by first | omega | (simp <;> omega)) (by simp [go_sem, df2])
 have dc3' : w2.cell? ⟨w.heap.size + 1, 3, none⟩ = some (.int .u64 0) := cell_later hb (by simp [go_sem, dc3])
 have df3' : w2.frozen? ⟨w.heap.size + 1, 3, none⟩ = false := froz_later hb (by first | omega | (simp <;> omega)) (by simp [go_sem, df3])
 clear dc0 df0 dc1 df1 dc2 df2 dc3 df3 hb
 have dc0 := dc0'
 have df0 := df0'
 have dc1 := dc1'
 have df1 := df1'
 have dc2 := dc2'
 have df2 := df2'
 have dc3 := dc3'
 have df3 := df3'
 clear dc0' df0' dc1' df1' dc2' df2' dc3' df3'
 go_wp2
 refine bodyPost_ret (v := (.agg (ea z))) (by simp [results, Tryz.results135, go_sem, dc0, dc1, dc2, dc3]) rfl ⟨_, rfl, ?_, ?_, ?_⟩
 ·exact hz'
 ·have := HZ.out
  unfold Hid
  rw [this, HV.out]
 ·exact ((((HB.out.setCell (by dsimp only; omega) _).setCell (by dsimp only; omega) _).setCell (by dsimp only; omega) _).setCell (by dsimp only; omega) _)
end Go.Proofs.YtlnbjehimabaiaaGreatDoor.Fc
