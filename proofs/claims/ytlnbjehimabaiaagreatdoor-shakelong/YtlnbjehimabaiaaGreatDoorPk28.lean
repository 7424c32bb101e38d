/-
  Several texts of one's own, laid together. No statement of the seat is proved here.
-/
import Derived.Test.YtlnbjehimabaiaaGreatDoorPk26
import Derived.Test.YtlnbjehimabaiaaGreatDoorPk1
/-
 What curve's changed does: two fractions change places where the bit is odd, and else not. No statement of the seat is proved here.
-/
namespace Go.Proofs.YtlnbjehimabaiaaGreatDoor.Fc
open Go.RowKit
set_option maxRecDepth 8000

theorem fr_setx {u : World} {b : Nat} {x z : Int} (h : Fr u b x z) (y : Int) : Fr ((((u.setCell ⟨b, 0, none⟩ (.int .u64 (e0 y))).setCell ⟨b, 1, none⟩ (.int .u64 (e1 y))).setCell ⟨b, 2, none⟩ (.int .u64 (e2 y))).setCell ⟨b, 3, none⟩ (.int .u64 (e3 y))) b y z := by
 obtain ⟨h0, h1, h2, h3, h4, h5, h6, h7⟩ := h
 constructor <;> simp [go_sem, h0, h1, h2, h3, h4, h5, h6, h7]
theorem fo_setx {u : World} {b : Nat} (h : Fo u b) (v0 v1 v2 v3 : Value) : Fo ((((u.setCell ⟨b, 0, none⟩ v0).setCell ⟨b, 1, none⟩ v1).setCell ⟨b, 2, none⟩ v2).setCell ⟨b, 3, none⟩ v3) b := by
 obtain ⟨⟨_, h0⟩, ⟨_, h1⟩, ⟨_, h2⟩, ⟨_, h3⟩, ⟨_, h4⟩, ⟨_, h5⟩, ⟨_, h6⟩, ⟨_, h7⟩, f0, f1, f2, f3, f4, f5, f6, f7⟩ := h
 constructor <;> first | exact ⟨_, by simp [go_sem, h0, h1, h2, h3, h4, h5, h6, h7]; rfl⟩ | simp [go_sem, f0, f1, f2, f3, f4, f5, f6, f7]
theorem fr_othx {u : World} {b c : Nat} {x z : Int} (h : Fr u b x z) (hne : b ≠ c) (v0 v1 v2 v3 : Value) : Fr ((((u.setCell ⟨c, 0, none⟩ v0).setCell ⟨c, 1, none⟩ v1).setCell ⟨c, 2, none⟩ v2).setCell ⟨c, 3, none⟩ v3) b x z := by
 obtain ⟨h0, h1, h2, h3, h4, h5, h6, h7⟩ := h
 have hb : c ≠ b := fun e => hne e.symm
 constructor <;> simp [go_sem, h0, h1, h2, h3, h4, h5, h6, h7]
theorem fo_othx {u : World} {b c : Nat} (h : Fo u b) (hne : b ≠ c) (v0 v1 v2 v3 : Value) : Fo ((((u.setCell ⟨c, 0, none⟩ v0).setCell ⟨c, 1, none⟩ v1).setCell ⟨c, 2, none⟩ v2).setCell ⟨c, 3, none⟩ v3) b := by
 obtain ⟨⟨_, h0⟩, ⟨_, h1⟩, ⟨_, h2⟩, ⟨_, h3⟩, ⟨_, h4⟩, ⟨_, h5⟩, ⟨_, h6⟩, ⟨_, h7⟩, f0, f1, f2, f3, f4, f5, f6, f7⟩ := h
 have hb : c ≠ b := fun e => hne e.symm
 constructor <;> first | exact ⟨_, by simp [go_sem, h0, h1, h2, h3, h4, h5, h6, h7]; rfl⟩ | simp [go_sem, f0, f1, f2, f3, f4, f5, f6, f7]
theorem below_setx {B : Nat} {a u : World} (h : Below B a u) (n : Nat) (hn : B ≤ n) (v0 v1 v2 v3 : Value) : Below B a ((((u.setCell ⟨n, 0, none⟩ (v0)).setCell ⟨n, 1, none⟩ (v1)).setCell ⟨n, 2, none⟩ (v2)).setCell ⟨n, 3, none⟩ (v3)) := (((h.setCell (p := ⟨n, 0, none⟩) hn _).setCell (p := ⟨n, 1, none⟩) hn _).setCell (p := ⟨n, 2, none⟩) hn _).setCell (p := ⟨n, 3, none⟩) hn _
theorem fr_setz {u : World} {b : Nat} {x z : Int} (h : Fr u b x z) (y : Int) : Fr ((((u.setCell ⟨b, 4, none⟩ (.int .u64 (e0 y))).setCell ⟨b, 5, none⟩ (.int .u64 (e1 y))).setCell ⟨b, 6, none⟩ (.int .u64 (e2 y))).setCell ⟨b, 7, none⟩ (.int .u64 (e3 y))) b x y := by
 obtain ⟨h0, h1, h2, h3, h4, h5, h6, h7⟩ := h
 constructor <;> simp [go_sem, h0, h1, h2, h3, h4, h5, h6, h7]
theorem fo_setz {u : World} {b : Nat} (h : Fo u b) (v0 v1 v2 v3 : Value) : Fo ((((u.setCell ⟨b, 4, none⟩ v0).setCell ⟨b, 5, none⟩ v1).setCell ⟨b, 6, none⟩ v2).setCell ⟨b, 7, none⟩ v3) b := by
 obtain ⟨⟨_, h0⟩, ⟨_, h1⟩, ⟨_, h2⟩, ⟨_, h3⟩, ⟨_, h4⟩, ⟨_, h5⟩, ⟨_, h6⟩, ⟨_, h7⟩, f0, f1, f2, f3, f4, f5, f6, f7⟩ := h
 constructor <;> first | exact ⟨_, by simp [go_sem, h0, h1, h2, h3, h4, h5, h6, h7]; rfl⟩ | simp [go_sem, f0, f1, f2, f3, f4, f5, f6, f7]
theorem fr_othz {u : World} {b c : Nat} {x z : Int} (h : Fr u b x z) (hne : b ≠ c) (v0 v1 v2 v3 : Value) : Fr ((((u.setCell ⟨c, 4, none⟩ v0).setCell ⟨c, 5, none⟩ v1).setCell ⟨c, 6, none⟩ v2).setCell ⟨c, 7, none⟩ v3) b x z := by
 obtain ⟨h0, h1, h2, h3, h4, h5, h6, h7⟩ := h
 have hb : c ≠ b := fun e => hne e.symm
 constructor <;> simp [go_sem, h0, h1, h2, h3, h4, h5, h6, h7]
theorem fo_othz {u : World} {b c : Nat} (h : Fo u b) (hne : b ≠ c) (v0 v1 v2 v3 : Value) : Fo ((((u.setCell ⟨c, 4, none⟩ v0).setCell ⟨c, 5, none⟩ v1).setCell ⟨c, 6, none⟩ v2).setCell ⟨c, 7, none⟩ v3) b := by
 obtain ⟨⟨_, h0⟩, ⟨_, h1⟩, ⟨_, h2⟩, ⟨_, h3⟩, ⟨_, h4⟩, ⟨_, h5⟩, ⟨_, h6⟩, ⟨_, h7⟩, f0, f1, f2, f3, f4, f5, f6, f7⟩ := h
 have hb : c ≠ b := fun e => hne e.symm
 constructor <;> first | exact ⟨_, by simp [go_sem, h0, h1, h2, h3, h4, h5, h6, h7]; rfl⟩ | simp [go_sem, f0, f1, f2, f3, f4, f5, f6, f7]
theorem below_setz {B : Nat} {a u : World} (h : Below B a u) (n : Nat) (hn : B ≤ n) (v0 v1 v2 v3 : Value) : Below B a ((((u.setCell ⟨n, 4, none⟩ (v0)).setCell ⟨n, 5, none⟩ (v1)).setCell ⟨n, 6, none⟩ (v2)).setCell ⟨n, 7, none⟩ (v3)) := (((h.setCell (p := ⟨n, 4, none⟩) hn _).setCell (p := ⟨n, 5, none⟩) hn _).setCell (p := ⟨n, 6, none⟩) hn _).setCell (p := ⟨n, 7, none⟩) hn _
theorem Fr.ext {bs : List Nat} {u W : World} {b : Nat} {x z : Int} (h : Fr W b x z) (hb : b ∉ bs) (hu : ExtL bs W u) : Fr u b x z := ⟨hu.cell hb h.c0, hu.cell hb h.c1, hu.cell hb h.c2, hu.cell hb h.c3, hu.cell hb h.c4, hu.cell hb h.c5, hu.cell hb h.c6, hu.cell hb h.c7⟩
theorem fr_is {u W : World} {b : Nat} {x z : Int} (e : W = u) (h : Fr u b x z) : Fr W b x z := e ▸ h
theorem fo_is {u W : World} {b : Nat} (e : W = u) (h : Fo u b) : Fo W b := e ▸ h
theorem below_is {B : Nat} {w u W : World} (e : W = u) (h : Below B w u) : Below B w W := e ▸ h
/-- A letter for the world. -/
theorem letterW {P : World → Prop} {w : World} (h : ∀ W, W = w → P W) : P w := h w rfl

set_option maxHeartbeats 4000000 in
theorem changed_g (x2 z2 x3 z3 a b c d n : Int) (h1 : ∀ w : World, Calls Tryz.prog 93 #[(.agg (ea x2)), (.agg (ea x3)), .int .u64 n] w fun e w' => e = .returned (.tuple #[(.agg (ea a)), (.agg (ea b))]) ∧ Below w.heap.size w w')
  (h2 : ∀ w : World, Calls Tryz.prog 93 #[(.agg (ea z2)), (.agg (ea z3)), .int .u64 n] w fun e w' => e = .returned (.tuple #[(.agg (ea c)), (.agg (ea d))]) ∧ Below w.heap.size w w') (w : World) :
  Calls Tryz.prog 68 #[(.agg #[.int .u64 (e0 x2), .int .u64 (e1 x2), .int .u64 (e2 x2), .int .u64 (e3 x2), .int .u64 (e0 z2), .int .u64 (e1 z2), .int .u64 (e2 z2), .int .u64 (e3 z2)]), (.agg #[.int .u64 (e0 x3), .int .u64 (e1 x3), .int .u64 (e2 x3), .int .u64 (e3 x3), .int .u64 (e0 z3), .int .u64 (e1 z3), .int .u64 (e2 z3), .int .u64 (e3 z3)]), .int .u64 n] w fun e w' => e = .returned (.tuple #[(.agg #[.int .u64 (e0 a), .int .u64 (e1 a), .int .u64 (e2 a), .int .u64 (e3 a), .int .u64 (e0 c), .int .u64 (e1 c), .int .u64 (e2 c), .int .u64 (e3 c)]), (.agg #[.int .u64 (e0 b), .int .u64 (e1 b), .int .u64 (e2 b), .int .u64 (e3 b), .int .u64 (e0 d), .int .u64 (e1 d), .int .u64 (e2 d), .int .u64 (e3 d)])]) ∧ Below w.heap.size w w' := by
 go_enter Tryz.func68, Tryz.ntmps68
 go_upto_region 1 with fail
 refine letterW fun W0 hW => ?_
 have HB : Hid (Below w.heap.size w W0) := below_is hW (bel4 _ _ _ _ _)
 have F3 : Hid (Fr W0 w.heap.size x2 z2) := by unfold Hid; rw [hW]; constructor <;> simp [go_sem]
 have F4 : Hid (Fr W0 (w.heap.size + 1) x3 z3) := by unfold Hid; rw [hW]; constructor <;> simp [go_sem]
 have O6 : Hid (Fo W0 (w.heap.size + 1 + 1)) := by unfold Hid; rw [hW]; constructor <;> first | exact ⟨_, by simp [go_sem]; rfl⟩ | simp [go_sem]
 have O7 : Hid (Fo W0 (w.heap.size + 1 + 1 + 1)) := by unfold Hid; rw [hW]; constructor <;> first | exact ⟨_, by simp [go_sem]; rfl⟩ | simp [go_sem]
 have O3 : Hid (Fo W0 (w.heap.size)) := by unfold Hid; rw [hW]; constructor <;> first | exact ⟨_, by simp [go_sem]; rfl⟩ | simp [go_sem]
 have O4 : Hid (Fo W0 (w.heap.size + 1)) := by unfold Hid; rw [hW]; constructor <;> first | exact ⟨_, by simp [go_sem]; rfl⟩ | simp [go_sem]
 clear hW
 have hq1 : w.heap.size < w.heap.size + 1 := by omega
 have hq2 : w.heap.size + 1 < w.heap.size + 1 + 1 := by omega
 have hq3 : w.heap.size + 1 + 1 < w.heap.size + 1 + 1 + 1 := by omega
 have hw3 : w.heap.size ≤ w.heap.size + 1 + 1 + 1 := by omega
 have hw2 : w.heap.size ≤ w.heap.size + 1 + 1 := by omega
 have hw1 : w.heap.size ≤ w.heap.size + 1 := by omega
 have hw0 : w.heap.size ≤ w.heap.size := Nat.le_refl _
 generalize w.heap.size + 1 + 1 + 1 = q3 at *
 generalize w.heap.size + 1 + 1 = q2 at *
 generalize w.heap.size + 1 = q1 at *
 obtain ⟨q0, hq0⟩ : ∃ q, q = w.heap.size := ⟨_, rfl⟩
 clear hq0 q0
 obtain ⟨a0, a1, a2, a3, a4, a5, a6, a7⟩ := F3.out
 obtain ⟨b0, b1, b2, b3, b4, b5, b6, b7⟩ := F4.out
 go_wp2_with fail
 clear a0 a1 a2 a3 a4 a5 a6 a7 b0 b1 b2 b3 b4 b5 b6 b7
 refine (h1 _).mono ?_
 rintro e u1 ⟨rfl, hb⟩
 replace F3 := hidp (F3.out.later hb)
 replace F4 := hidp (F4.out.later hb)
 replace O3 := hidp (O3.out.later hb)
 replace O4 := hidp (O4.out.later hb)
 replace O6 := hidp (O6.out.later hb)
 replace O7 := hidp (O7.out.later hb)
 replace HB := hidp (HB.out.trans (Below.mono hb HB.out.size))
 clear hb
 obtain ⟨⟨_, a0⟩, ⟨_, a1⟩, ⟨_, a2⟩, ⟨_, a3⟩, ⟨_, a4⟩, ⟨_, a5⟩, ⟨_, a6⟩, ⟨_, a7⟩, af0, af1, af2, af3, af4, af5, af6, af7⟩ := O3.out
 obtain ⟨⟨_, b0⟩, ⟨_, b1⟩, ⟨_, b2⟩, ⟨_, b3⟩, ⟨_, b4⟩, ⟨_, b5⟩, ⟨_, b6⟩, ⟨_, b7⟩, bf0, bf1, bf2, bf3, bf4, bf5, bf6, bf7⟩ := O4.out
 go_upto_region 2 with fail
 clear a0 a1 a2 a3 a4 a5 a6 a7 b0 b1 b2 b3 b4 b5 b6 b7 af0 af1 af2 af3 af4 af5 af6 af7 bf0 bf1 bf2 bf3 bf4 bf5 bf6 bf7
 refine letterW fun W1 hW => ?_
 replace F3 : Hid (Fr W1 w.heap.size a z2) := fr_is hW (fr_othx (fr_setx F3.out _) (by omega) _ _ _ _)
 replace F4 : Hid (Fr W1 q1 b z3) := fr_is hW (fr_setx (fr_othx F4.out (by omega) _ _ _ _) _)
 replace O3 : Hid (Fo W1 w.heap.size) := fo_is hW (fo_othx (fo_setx O3.out _ _ _ _) (by omega) _ _ _ _)
 replace O4 : Hid (Fo W1 q1) := fo_is hW (fo_setx (fo_othx O4.out (by omega) _ _ _ _) _ _ _ _)
 replace O6 : Hid (Fo W1 q2) := fo_is hW (fo_othx (fo_othx O6.out (by omega) _ _ _ _) (by omega) _ _ _ _)
 replace O7 : Hid (Fo W1 q3) := fo_is hW (fo_othx (fo_othx O7.out (by omega) _ _ _ _) (by omega) _ _ _ _)
 replace HB : Hid (Below w.heap.size w W1) := below_is hW (below_setx (below_setx HB.out _ (by omega) _ _ _ _) _ (by omega) _ _ _ _)
 clear hW
 obtain ⟨a0, a1, a2, a3, a4, a5, a6, a7⟩ := F3.out
 obtain ⟨b0, b1, b2, b3, b4, b5, b6, b7⟩ := F4.out
 go_wp2_with fail
 clear a0 a1 a2 a3 a4 a5 a6 a7 b0 b1 b2 b3 b4 b5 b6 b7
 refine (h2 _).mono ?_
 rintro e u2 ⟨rfl, hb⟩
 replace F3 := hidp (F3.out.later hb)
 replace F4 := hidp (F4.out.later hb)
 replace O3 := hidp (O3.out.later hb)
 replace O4 := hidp (O4.out.later hb)
 replace O6 := hidp (O6.out.later hb)
 replace O7 := hidp (O7.out.later hb)
 replace HB := hidp (HB.out.trans (Below.mono hb HB.out.size))
 clear hb
 obtain ⟨⟨_, a0⟩, ⟨_, a1⟩, ⟨_, a2⟩, ⟨_, a3⟩, ⟨_, a4⟩, ⟨_, a5⟩, ⟨_, a6⟩, ⟨_, a7⟩, af0, af1, af2, af3, af4, af5, af6, af7⟩ := O3.out
 obtain ⟨⟨_, b0⟩, ⟨_, b1⟩, ⟨_, b2⟩, ⟨_, b3⟩, ⟨_, b4⟩, ⟨_, b5⟩, ⟨_, b6⟩, ⟨_, b7⟩, bf0, bf1, bf2, bf3, bf4, bf5, bf6, bf7⟩ := O4.out
 go_upto_region 3 with fail
 clear a0 a1 a2 a3 a4 a5 a6 a7 b0 b1 b2 b3 b4 b5 b6 b7 af0 af1 af2 af3 af4 af5 af6 af7 bf0 bf1 bf2 bf3 bf4 bf5 bf6 bf7
 refine letterW fun W2 hW => ?_
 replace F3 : Hid (Fr W2 w.heap.size a c) := fr_is hW (fr_othz (fr_setz F3.out _) (by omega) _ _ _ _)
 replace F4 : Hid (Fr W2 q1 b d) := fr_is hW (fr_setz (fr_othz F4.out (by omega) _ _ _ _) _)
 replace O3 : Hid (Fo W2 w.heap.size) := fo_is hW (fo_othz (fo_setz O3.out _ _ _ _) (by omega) _ _ _ _)
 replace O4 : Hid (Fo W2 q1) := fo_is hW (fo_setz (fo_othz O4.out (by omega) _ _ _ _) _ _ _ _)
 replace O6 : Hid (Fo W2 q2) := fo_is hW (fo_othz (fo_othz O6.out (by omega) _ _ _ _) (by omega) _ _ _ _)
 replace O7 : Hid (Fo W2 q3) := fo_is hW (fo_othz (fo_othz O7.out (by omega) _ _ _ _) (by omega) _ _ _ _)
 replace HB : Hid (Below w.heap.size w W2) := below_is hW (below_setz (below_setz HB.out _ (by omega) _ _ _ _) _ (by omega) _ _ _ _)
 clear hW
 clear O3 O4
 have G3 : Hid (∀ u, ExtL [q2, q3] W2 u → Fr u w.heap.size a c) := fun u hu => F3.out.ext (by simp only [List.mem_cons, List.not_mem_nil, or_false]; omega) hu
 have G4 : Hid (∀ u, ExtL [q2, q3] W2 u → Fr u q1 b d) := fun u hu => F4.out.ext (by simp only [List.mem_cons, List.not_mem_nil, or_false]; omega) hu
 refine wp_region_noPanic ?_
 refine wp_region_held_drew (S := ExtL [q2, q3] W2) (by kernel_rfl) (ExtL.refl _ _).drew (fun hH => ?_)
 change wpAnyH _ _ _ _ _ _ #[false, false, false, false] _ _
 replace O6 : Hid (Fo W2.drew q2) := O6.out.later (Below.refl _ _).drew
 replace O7 : Hid (Fo W2.drew q3) := O7.out.later (Below.refl _ _).drew
 refine letterW fun y0 hW => ?_
 rw [← hW] at O6 O7 hH
 clear hW
 refine tn 0 ?_ (hy := by (intro u hu; obtain ⟨p0, p1, p2, p3, p4, p5, p6, p7⟩ := G3.out u hu; go_simp) <;> with_reducible rfl)
 refine tn 1 ?_ (hy := by (intro u hu; obtain ⟨p0, p1, p2, p3, p4, p5, p6, p7⟩ := G4.out u hu; go_simp) <;> with_reducible rfl)
 obtain ⟨⟨_, n0⟩, ⟨_, n1⟩, ⟨_, n2⟩, ⟨_, n3⟩, ⟨_, n4⟩, ⟨_, n5⟩, ⟨_, n6⟩, ⟨_, n7⟩, nf0, nf1, nf2, nf3, nf4, nf5, nf6, nf7⟩ := O6.out
 refine rdy 2 (fun K hK => ?_)
 go_simp
 refine ko hK (hH.set8 (b := q2) (by simp) _ _ _ _ _ _ _ _) fun hH => ?_
 clear hK K
 clear n0 n1 n2 n3 n4 n5 n6 n7 nf0 nf1 nf2 nf3 nf4 nf5 nf6 nf7
 have R6 : Hid (Fr _ q2 a c) := fr_set y0 q2 a c O6.out
 clear O6
 replace O7 : Hid (Fo _ q3) := fo_o8 O7.out (show q3 ≠ q2 by omega) (.int .u64 (e0 a)) (.int .u64 (e1 a)) (.int .u64 (e2 a)) (.int .u64 (e3 a)) (.int .u64 (e0 c)) (.int .u64 (e1 c)) (.int .u64 (e2 c)) (.int .u64 (e3 c))
 refine letterW fun y1 hW => ?_
 rw [← hW] at R6 O7 hH
 clear hW
 obtain ⟨⟨_, n0⟩, ⟨_, n1⟩, ⟨_, n2⟩, ⟨_, n3⟩, ⟨_, n4⟩, ⟨_, n5⟩, ⟨_, n6⟩, ⟨_, n7⟩, nf0, nf1, nf2, nf3, nf4, nf5, nf6, nf7⟩ := O7.out
 refine rdy 3 (fun K hK => ?_)
 go_simp
 refine ko hK (hH.set8 (b := q3) (by simp) _ _ _ _ _ _ _ _) fun hH => ?_
 clear hK K
 clear n0 n1 n2 n3 n4 n5 n6 n7 nf0 nf1 nf2 nf3 nf4 nf5 nf6 nf7
 have R7 : Hid (Fr _ q3 b d) := fr_set y1 q3 b d O7.out
 clear O7
 refine letterW fun y2 hW => ?_
 replace R6 : Hid (Fr y2 q2 a c) := fr_is hW (fr_o8 R6.out (by omega) _ _ _ _ _ _ _ _)
 rw [← hW] at R7 hH
 clear hW
 refine wpAnyH_done (by kernel_rfl) ?_ _
 refine NoPanic.normal ?_
 obtain ⟨s0, s1, s2, s3, s4, s5, s6, s7⟩ := R6.out
 obtain ⟨t0, t1, t2, t3, t4, t5, t6, t7⟩ := R7.out
 go_wp2
 exact bodyPost_ret (v := .tuple #[(.agg #[.int .u64 (e0 a), .int .u64 (e1 a), .int .u64 (e2 a), .int .u64 (e3 a), .int .u64 (e0 c), .int .u64 (e1 c), .int .u64 (e2 c), .int .u64 (e3 c)]), (.agg #[.int .u64 (e0 b), .int .u64 (e1 b), .int .u64 (e2 b), .int .u64 (e3 b), .int .u64 (e0 d), .int .u64 (e1 d), .int .u64 (e2 d), .int .u64 (e3 d)])]) (by simp [results, Tryz.results68, go_sem, s0, s1, s2, s3, s4, s5, s6, s7, t0, t1, t2, t3, t4, t5, t6, t7]) rfl ⟨rfl, (hH.below HB.out (fun b hb => by simp only [List.mem_cons, List.not_mem_nil, or_false] at hb; omega))⟩
theorem changed_even (x2 z2 x3 z3 n : Int) (hx2 : El x2) (hz2 : El z2) (hx3 : El x3) (hz3 : El z3) (hn : Wd n) (hp : n % 2 = 0) (w : World) :
  Calls Tryz.prog 68 #[(.agg #[.int .u64 (e0 x2), .int .u64 (e1 x2), .int .u64 (e2 x2), .int .u64 (e3 x2), .int .u64 (e0 z2), .int .u64 (e1 z2), .int .u64 (e2 z2), .int .u64 (e3 z2)]), (.agg #[.int .u64 (e0 x3), .int .u64 (e1 x3), .int .u64 (e2 x3), .int .u64 (e3 x3), .int .u64 (e0 z3), .int .u64 (e1 z3), .int .u64 (e2 z3), .int .u64 (e3 z3)]), .int .u64 n] w fun e w' => e = .returned (.tuple #[(.agg #[.int .u64 (e0 x2), .int .u64 (e1 x2), .int .u64 (e2 x2), .int .u64 (e3 x2), .int .u64 (e0 z2), .int .u64 (e1 z2), .int .u64 (e2 z2), .int .u64 (e3 z2)]), (.agg #[.int .u64 (e0 x3), .int .u64 (e1 x3), .int .u64 (e2 x3), .int .u64 (e3 x3), .int .u64 (e0 z3), .int .u64 (e1 z3), .int .u64 (e2 z3), .int .u64 (e3 z3)])]) ∧ Below w.heap.size w w' :=
 changed_g x2 z2 x3 z3 x2 x3 z2 z3 n (swap_even x2 x3 n hx2 hx3 hn hp) (swap_even z2 z3 n hz2 hz3 hn hp) w
theorem changed_odd (x2 z2 x3 z3 n : Int) (hx2 : El x2) (hz2 : El z2) (hx3 : El x3) (hz3 : El z3) (hn : Wd n) (hp : n % 2 = 1) (w : World) :
  Calls Tryz.prog 68 #[(.agg #[.int .u64 (e0 x2), .int .u64 (e1 x2), .int .u64 (e2 x2), .int .u64 (e3 x2), .int .u64 (e0 z2), .int .u64 (e1 z2), .int .u64 (e2 z2), .int .u64 (e3 z2)]), (.agg #[.int .u64 (e0 x3), .int .u64 (e1 x3), .int .u64 (e2 x3), .int .u64 (e3 x3), .int .u64 (e0 z3), .int .u64 (e1 z3), .int .u64 (e2 z3), .int .u64 (e3 z3)]), .int .u64 n] w fun e w' => e = .returned (.tuple #[(.agg #[.int .u64 (e0 x3), .int .u64 (e1 x3), .int .u64 (e2 x3), .int .u64 (e3 x3), .int .u64 (e0 z3), .int .u64 (e1 z3), .int .u64 (e2 z3), .int .u64 (e3 z3)]), (.agg #[.int .u64 (e0 x2), .int .u64 (e1 x2), .int .u64 (e2 x2), .int .u64 (e3 x2), .int .u64 (e0 z2), .int .u64 (e1 z2), .int .u64 (e2 z2), .int .u64 (e3 z2)])]) ∧ Below w.heap.size w w' :=
 changed_g x2 z2 x3 z3 x3 x2 z3 z2 n (swap_odd x2 x3 n hx2 hx3 hn hp) (swap_odd z2 z3 n hz2 hz3 hn hp) w
end Go.Proofs.YtlnbjehimabaiaaGreatDoor.Fc
/-
 What curve's bit does: a bit of the number of the bytes. No statement of the seat is proved here.
-/
namespace Go.Proofs.YtlnbjehimabaiaaGreatDoor.Fc
open Go.RowKit
set_option maxRecDepth 8000

theorem and7 : ∀ t : Fin 256, bits .and .i64 ((t.val : Nat) : Int) 7 = ((t.val % 8 : Nat) : Int) := by decide +kernel
theorem leN_take (l : List Int) (hb : Byt l) (j : Nat) (h : j < l.length) : ∃ c, leN l = leN (l.take j) + 256 ^ j * (l[j] + 256 * c) ∧ 0 ≤ leN (l.take j) ∧ leN (l.take j) < 256 ^ j := by
 have e : l = l.take j ++ l[j] :: l.drop (j + 1) := by rw [← List.drop_eq_getElem_cons h, List.take_append_drop]
 have ht : (l.take j).length = j := by rw [List.length_take]; omega
 have hbt : Byt (l.take j) := fun x hx => hb x (List.mem_of_mem_take hx)
 have b := leN_bound _ hbt
 rw [ht] at b
 refine ⟨leN (l.drop (j + 1)), ?_, b.1, b.2⟩
 have e2 := leN_app (l.take j) (l[j] :: l.drop (j + 1))
 rw [← e, ht] at e2
 rw [e2, leN]
theorem bit_leN (l : List Int) (hb : Byt l) (t : Nat) (h : t / 8 < l.length) : leN l / 2 ^ t % 2 = l[t / 8] / 2 ^ (t % 8) % 2 := by
 obtain ⟨c, e, h0, h1⟩ := leN_take l hb (t / 8) h
 have hr := hb _ (List.getElem_mem h)
 generalize l[t / 8] = r at *
 have e1 : (2 : Int) ^ t = 256 ^ (t / 8) * 2 ^ (t % 8) := by
  rw [show (256 : Int) = 2 ^ 8 from rfl, ← Int.pow_mul, ← Int.pow_add]
  congr 1
  omega
 rw [e1, ← Int.ediv_ediv_of_nonneg (Int.le_of_lt (Int.pow_pos (by decide))), e, Int.add_mul_ediv_left _ _ (Int.ne_of_gt (Int.pow_pos (by decide))), Int.ediv_eq_zero_of_lt h0 h1, Int.zero_add]
 have h8 : t % 8 < 8 := Nat.mod_lt _ (by decide)
 generalize t % 8 = s at *
 have hs : s = 0 ∨ s = 1 ∨ s = 2 ∨ s = 3 ∨ s = 4 ∨ s = 5 ∨ s = 6 ∨ s = 7 := by omega
 rcases hs with rfl | rfl | rfl | rfl | rfl | rfl | rfl | rfl <;> simp only [Int.reducePow] <;> omega

set_option maxHeartbeats 1000000 in
theorem bit_c (l : List Int) (hl : By l) (t : Nat) (ht : t < 256) (w : World) :
  Calls Tryz.prog 67 #[(.agg (List.map (Value.int .u8) l).toArray), .int .i64 t] w fun e w' => e = .returned (.int .u64 (leN l / 2 ^ t % 2)) ∧ Below w.heap.size w w' := by
 have h1 : t / 8 < l.length := by rw [hl.len]; omega
 have HV : Hid (leN l / 2 ^ t % 2 = l[t / 8] / 2 ^ (t % 8) % 2) := bit_leN l hl.byt t h1
 have r1 := hl.byt _ (List.getElem_mem h1)
 have c1 : (w.alloc (.cells (List.map (Value.int .u8) l).toArray 30)).cell? ⟨w.heap.size, t / 8, none⟩ = some (.int .u8 l[t / 8]) := by
  have := (arr_box w l hl).rng (t / 8) (.int .u8 l[t / 8]) (by rw [List.getElem?_map, List.getElem?_eq_getElem h1]; rfl)
  rwa [Nat.zero_add] at this
 generalize l[t / 8] = r at *
 have h7 : bits .and .i64 (t : Int) 7 = ((t % 8 : Nat) : Int) := and7 ⟨t, ht⟩
 have h8 : t % 8 < 8 := Nat.mod_lt _ (by decide)
 generalize t % 8 = s at *
 have hd : 0 ≤ r / 2 ^ s ∧ r / 2 ^ s ≤ 255 := ⟨Int.ediv_nonneg r1.1 (Int.le_of_lt (Int.pow_pos (by decide))), Int.le_trans (Int.ediv_le_self _ r1.1) r1.2⟩
 have h2 : bits .and .u64 (r / 2 ^ s) 1 = r / 2 ^ s % 2 := and_one _ ⟨hd.1, by omega⟩
 have hw : IntKind.u64.wrap (r / 2 ^ s) = r / 2 ^ s := by
  rw [IntKind.wrap_u64]
  omega
 go_enter Tryz.func67, Tryz.ntmps67
 go_wp2
 go_ret
 refine ⟨?_, bel1 _ _⟩
 rw [HV.out]
 rfl
end Go.Proofs.YtlnbjehimabaiaaGreatDoor.Fc
/-
 What curve's Clamp does. No statement of the seat is proved here.
-/
namespace Go.Proofs.YtlnbjehimabaiaaGreatDoor.Fc
open Go.RowKit
set_option maxRecDepth 8000

theorem an7 : ∀ t : Fin 256, bits .andNot .u8 ((t.val : Nat) : Int) 7 = ((t.val - t.val % 8 : Nat) : Int) := by decide +kernel
theorem an128 : ∀ t : Fin 256, bits .or .u8 (bits .andNot .u8 ((t.val : Nat) : Int) 128) 64 = ((t.val % 64 + 64 : Nat) : Int) := by decide +kernel
theorem an128' : ∀ t : Fin 256, 0 ≤ bits .andNot .u8 ((t.val : Nat) : Int) 128 ∧ bits .andNot .u8 ((t.val : Nat) : Int) 128 ≤ 255 := by decide +kernel
/-- A scalar's bytes, clamped. -/
def cl (l : List Int) : List Int := (l.set 0 (l[0]! - l[0]! % 8)).set 31 (l[31]! % 64 + 64)
theorem cl_by {l : List Int} (h : By l) : By (cl l) := by
 have e0 : l[0]! = l[0]'(by rw [h.len]; decide) := getElem!_pos l 0 (by rw [h.len]; decide)
 have e1 : l[31]! = l[31]'(by rw [h.len]; decide) := getElem!_pos l 31 (by rw [h.len]; decide)
 have h0 := h.byt _ (List.getElem_mem (l := l) (n := 0) (by rw [h.len]; decide))
 have h1 := h.byt _ (List.getElem_mem (l := l) (n := 31) (by rw [h.len]; decide))
 refine ⟨by simp [cl, h.len], fun x hx => ?_⟩
 unfold cl at hx
 rcases List.mem_or_eq_of_mem_set hx with hx | rfl
 ·rcases List.mem_or_eq_of_mem_set hx with hx | rfl
  ·exact h.byt x hx
  ·rw [e0]; omega
 ·omega
theorem set_map (l : List Int) (k : Nat) (x : Int) : (List.map (Value.int .u8) l).set k (.int .u8 x) = List.map (Value.int .u8) (l.set k x) := by rw [List.map_set]
theorem arr_set {u : World} {b : Nat} {l : List Int} (h : Arr u b (List.map (Value.int .u8) l)) (k : Nat) (hk : k < l.length) (x : Int) : Arr (u.setCell ⟨b, k, none⟩ (.int .u8 x)) b (List.map (Value.int .u8) (l.set k x)) := by
 refine ⟨fun j v hv => ?_, there_set h.all _ _ _⟩
 rw [Nat.zero_add]
 rw [← set_map] at hv
 have hjl : j < ((List.map (Value.int .u8) l).set k (.int .u8 x)).length := (List.getElem?_eq_some_iff.1 hv).1
 rw [List.length_set, List.length_map] at hjl
 by_cases hj : j = k
 ·subst hj
  rw [List.getElem?_set_self (by simpa using hk)] at hv
  have hc := h.rng j (.int .u8 l[j]) (by rw [List.getElem?_map, List.getElem?_eq_getElem hjl]; rfl)
  rw [Nat.zero_add] at hc
  have := World.cell?_setCell_same (w := u) (a := ⟨b, j, none⟩) (v := .int .u8 x) hc
  rw [← hv]
  exact this
 ·rw [List.getElem?_set_ne (fun e => hj e.symm)] at hv
  have hc := h.rng j v hv
  rw [Nat.zero_add] at hc
  simp [go_sem, hc]
theorem arr_cell {u : World} {b : Nat} {l : List Int} (h : Arr u b (List.map (Value.int .u8) l)) (k : Nat) (hk : k < l.length) (h32 : k < 32) : u.cell? ⟨b, k, none⟩ = some (.int .u8 l[k]) ∧ u.frozen? ⟨b, k, none⟩ = false := by
 have hc := h.rng k (.int .u8 l[k]) (by rw [List.getElem?_map, List.getElem?_eq_getElem hk]; rfl)
 rw [Nat.zero_add] at hc
 obtain ⟨v, _, hf⟩ := there_cell h.all k h32
 exact ⟨hc, hf⟩

set_option maxHeartbeats 2000000 in
theorem clamp_c (l : List Int) (hl : By l) (w : World) :
  Calls Tryz.prog 63 #[(.agg (List.map (Value.int .u8) l).toArray)] w fun e w' => e = .returned (.agg (List.map (Value.int .u8) (cl l)).toArray) ∧ Below w.heap.size w w' := by
 have n0 : 0 < l.length := by rw [hl.len]; decide
 have n1 : 31 < l.length := by rw [hl.len]; decide
 have HC : Hid (cl l = ((l.set 0 (l[0] - l[0] % 8)).set 31 (l[31] % 64 + 64))) := by unfold Hid cl; rw [getElem!_pos l 0 n0, getElem!_pos l 31 n1]
 have HY : Hid (By (cl l)) := cl_by hl
 have r0 := hl.byt _ (List.getElem_mem n0)
 have r1 := hl.byt _ (List.getElem_mem n1)
 go_enter Tryz.func63, Tryz.ntmps63
 go_upto_region 1 with fail
 have HL : Hid (Arr ((w.alloc (.cells (List.map (Value.int .u8) l).toArray 30)).alloc (.cells zb32 30)) (w.heap.size) (List.map (Value.int .u8) l)) := (arr_box w l hl).later (bel1 _ _)
 have HD : Hid (((w.alloc (.cells (List.map (Value.int .u8) l).toArray 30)).alloc (.cells zb32 30)).there (w.heap.size + 1) 0 32) := by have := there_new (w.alloc (.cells (List.map (Value.int .u8) l).toArray 30)) 32 zb32 rfl 30; simpa [Hid] using this
 have HB : Hid (Below w.heap.size w ((w.alloc (.cells (List.map (Value.int .u8) l).toArray 30)).alloc (.cells zb32 30))) := bel2 _ _ _
 generalize (w.alloc (.cells (List.map (Value.int .u8) l).toArray 30)).alloc (.cells zb32 30) = W0 at *
 have k1 : w.heap.size < w.heap.size + 1 := by omega
 generalize w.heap.size + 1 = b1 at *
 obtain ⟨c0, f0⟩ := arr_cell HL.out 0 n0 (by decide)
 have e0 : bits .andNot .u8 l[0] 7 = l[0] - l[0] % 8 := by
  obtain ⟨x0, x1⟩ := r0
  generalize l[0] = r at *
  obtain ⟨m, rfl⟩ := Int.eq_ofNat_of_zero_le x0
  have := an7 ⟨m, by omega⟩
  simp only at this
  rw [this]
  omega
 generalize hr0 : l[0] = q0 at *
 go_upto_region 2 with fail
 have HL2 : Hid (Arr (W0.setCell ⟨w.heap.size, 0, none⟩ (.int .u8 (q0 - q0 % 8))) (w.heap.size) (List.map (Value.int .u8) (l.set 0 (q0 - q0 % 8)))) := arr_set HL.out 0 n0 _
 have HD2 : Hid ((W0.setCell ⟨w.heap.size, 0, none⟩ (.int .u8 (q0 - q0 % 8))).there b1 0 32) := there_set HD.out _ _ _
 have HB2 : Hid (Below w.heap.size w (W0.setCell ⟨w.heap.size, 0, none⟩ (.int .u8 (q0 - q0 % 8)))) := HB.out.setCell (p := ⟨w.heap.size, 0, none⟩) (Nat.le_refl _) _
 clear HL HD HB c0 f0 e0
 generalize W0.setCell ⟨w.heap.size, 0, none⟩ (.int .u8 (q0 - q0 % 8)) = W1 at *
 have n31 : 31 < (l.set 0 (q0 - q0 % 8)).length := by rw [List.length_set]; exact n1
 obtain ⟨c0, f0⟩ := arr_cell HL2.out 31 n31 (by decide)
 rw [List.getElem_set_ne (by decide)] at c0
 obtain ⟨e1, e2⟩ : (0 ≤ bits .andNot .u8 l[31] 128 ∧ bits .andNot .u8 l[31] 128 ≤ 255) ∧ bits .or .u8 (bits .andNot .u8 l[31] 128) 64 = l[31] % 64 + 64 := by
  obtain ⟨x0, x1⟩ := r1
  generalize l[31] = r at *
  obtain ⟨m, rfl⟩ := Int.eq_ofNat_of_zero_le x0
  refine ⟨an128' ⟨m, by omega⟩, ?_⟩
  have := an128 ⟨m, by omega⟩
  simp only at this
  rw [this]
  omega
 generalize hr1 : l[31] = q1 at *
 generalize hq2 : bits .andNot .u8 q1 128 = q2 at *
 go_upto_region 3 with fail
 have HL3 : Hid (Arr (W1.setCell ⟨w.heap.size, 31, none⟩ (.int .u8 q2)) (w.heap.size) (List.map (Value.int .u8) ((l.set 0 (q0 - q0 % 8)).set 31 q2))) := arr_set HL2.out 31 n31 _
 have HD3 : Hid ((W1.setCell ⟨w.heap.size, 31, none⟩ (.int .u8 q2)).there b1 0 32) := there_set HD2.out _ _ _
 have HB3 : Hid (Below w.heap.size w (W1.setCell ⟨w.heap.size, 31, none⟩ (.int .u8 q2))) := HB2.out.setCell (p := ⟨w.heap.size, 31, none⟩) (Nat.le_refl _) _
 clear HL2 HD2 HB2 c0 f0 hq2
 generalize W1.setCell ⟨w.heap.size, 31, none⟩ (.int .u8 q2) = W2 at *
 have n31' : 31 < ((l.set 0 (q0 - q0 % 8)).set 31 q2).length := by rw [List.length_set]; exact n31
 obtain ⟨c0, f0⟩ := arr_cell HL3.out 31 n31' (by decide)
 rw [List.getElem_set_self] at c0
 go_upto_region 4 with fail
 have HL4 : Hid (Arr (W2.setCell ⟨w.heap.size, 31, none⟩ (.int .u8 (q1 % 64 + 64))) (w.heap.size) (List.map (Value.int .u8) (cl l))) := by
  have := arr_set HL3.out 31 n31' (q1 % 64 + 64)
  rw [List.set_set] at this
  unfold Hid
  rw [HC.out]
  exact this
 have HD4 : Hid ((W2.setCell ⟨w.heap.size, 31, none⟩ (.int .u8 (q1 % 64 + 64))).there b1 0 32) := there_set HD3.out _ _ _
 have HB4 : Hid (Below w.heap.size w (W2.setCell ⟨w.heap.size, 31, none⟩ (.int .u8 (q1 % 64 + 64)))) := HB3.out.setCell (p := ⟨w.heap.size, 31, none⟩) (Nat.le_refl _) _
 clear HL3 HD3 HB3 c0 f0 n31 n31' HC hr0 hr1
 generalize W2.setCell ⟨w.heap.size, 31, none⟩ (.int .u8 (q1 % 64 + 64)) = W3 at *
 obtain ⟨hlen, hone, hi⟩ := by_cells HY.out
 generalize hcs : (List.map (Value.int .u8) (cl l)) = cs at *
 have HE : Hid ((List.map (Value.int .u8) (cl l)) = cs) := hcs
 clear hcs
 go_wp2_with (first
  | (refine wpList_load_mid rfl 30 (.tmp 1) rfl (w.heap.size) 0 rfl cs _ HL4.out.rng Tryz.underlying30 rfl hi ?_)
  | (refine wpList_store_mid rfl 30 (.tmp 2) (.tmp 15) rfl b1 0 cs.toArray rfl rfl (by simpa [hlen] using HD4.out) (by simpa using hi) (all_oneCell_toArray hone) ?_))
 have HR2 : Hid ((W3.setCells b1 0 cs).rangeAt b1 0 cs) := World.rangeAt_setCells_same _ _ _ _ (by rw [hlen]; exact HD4.out)
 have hld := run_loadVar_mid (P := Tryz.prog) _ _ 0 30 _ _ HR2.out Tryz.underlying30 rfl hi
 exact bodyPost_ret (v := .agg cs.toArray) (by simp [results, Tryz.results63]; exact hld) rfl ⟨by rw [HE.out], below_setCells _ (by omega) _ _ _ HB4.out⟩
end Go.Proofs.YtlnbjehimabaiaaGreatDoor.Fc
