/-
  What curve's changed does: two fractions change places where the bit is odd, and else not. No statement of the seat is proved here.
-/
import Derived.Test.YtggjifpcoidipaaDoorCBase
namespace Go.Proofs.YtggjifpcoidipaaDoor
open Go.RowKit

theorem fr_setx {u : World} {b : Nat} {x z : Int} (h : Fr u b x z) (y : Int) : Fr ((((u.setCell ⟨b, 0, none⟩ (.int .u64 (e0 y))).setCell ⟨b, 1, none⟩ (.int .u64 (e1 y))).setCell ⟨b, 2, none⟩ (.int .u64 (e2 y))).setCell ⟨b, 3, none⟩ (.int .u64 (e3 y))) b y z := by
  obtain ⟨h0, h1, h2, h3, h4, h5, h6, h7⟩ := h
  exact ⟨by simp [go_sem, h0], by simp [go_sem, h1], by simp [go_sem, h2], by simp [go_sem, h3], by simp [go_sem, h4], by simp [go_sem, h5], by simp [go_sem, h6], by simp [go_sem, h7]⟩
theorem fo_setx {u : World} {b : Nat} (h : Fo u b) (v0 v1 v2 v3 : Value) : Fo ((((u.setCell ⟨b, 0, none⟩ (v0)).setCell ⟨b, 1, none⟩ (v1)).setCell ⟨b, 2, none⟩ (v2)).setCell ⟨b, 3, none⟩ (v3)) b := by
  obtain ⟨⟨x0, h0⟩, ⟨x1, h1⟩, ⟨x2, h2⟩, ⟨x3, h3⟩, ⟨x4, h4⟩, ⟨x5, h5⟩, ⟨x6, h6⟩, ⟨x7, h7⟩, f0, f1, f2, f3, f4, f5, f6, f7⟩ := h
  exact ⟨⟨_, by simp [go_sem, h0]; rfl⟩, ⟨_, by simp [go_sem, h1]; rfl⟩, ⟨_, by simp [go_sem, h2]; rfl⟩, ⟨_, by simp [go_sem, h3]; rfl⟩, ⟨_, by simp [go_sem, h4]; rfl⟩, ⟨_, by simp [go_sem, h5]; rfl⟩, ⟨_, by simp [go_sem, h6]; rfl⟩, ⟨_, by simp [go_sem, h7]; rfl⟩, by simp [go_sem, f0], by simp [go_sem, f1], by simp [go_sem, f2], by simp [go_sem, f3], by simp [go_sem, f4], by simp [go_sem, f5], by simp [go_sem, f6], by simp [go_sem, f7]⟩
theorem fr_othx {u : World} {b c : Nat} {x z : Int} (h : Fr u b x z) (hne : b ≠ c) (v0 v1 v2 v3 : Value) : Fr ((((u.setCell ⟨c, 0, none⟩ (v0)).setCell ⟨c, 1, none⟩ (v1)).setCell ⟨c, 2, none⟩ (v2)).setCell ⟨c, 3, none⟩ (v3)) b x z := by
  obtain ⟨h0, h1, h2, h3, h4, h5, h6, h7⟩ := h
  have hb : c ≠ b := fun e => hne e.symm
  exact ⟨by simp [go_sem, h0], by simp [go_sem, h1], by simp [go_sem, h2], by simp [go_sem, h3], by simp [go_sem, h4], by simp [go_sem, h5], by simp [go_sem, h6], by simp [go_sem, h7]⟩
theorem fo_othx {u : World} {b c : Nat} (h : Fo u b) (hne : b ≠ c) (v0 v1 v2 v3 : Value) : Fo ((((u.setCell ⟨c, 0, none⟩ (v0)).setCell ⟨c, 1, none⟩ (v1)).setCell ⟨c, 2, none⟩ (v2)).setCell ⟨c, 3, none⟩ (v3)) b := by
  obtain ⟨⟨x0, h0⟩, ⟨x1, h1⟩, ⟨x2, h2⟩, ⟨x3, h3⟩, ⟨x4, h4⟩, ⟨x5, h5⟩, ⟨x6, h6⟩, ⟨x7, h7⟩, f0, f1, f2, f3, f4, f5, f6, f7⟩ := h
  have hb : c ≠ b := fun e => hne e.symm
  exact ⟨⟨x0, by simp [go_sem, h0]⟩, ⟨x1, by simp [go_sem, h1]⟩, ⟨x2, by simp [go_sem, h2]⟩, ⟨x3, by simp [go_sem, h3]⟩, ⟨x4, by simp [go_sem, h4]⟩, ⟨x5, by simp [go_sem, h5]⟩, ⟨x6, by simp [go_sem, h6]⟩, ⟨x7, by simp [go_sem, h7]⟩, by simp [go_sem, f0], by simp [go_sem, f1], by simp [go_sem, f2], by simp [go_sem, f3], by simp [go_sem, f4], by simp [go_sem, f5], by simp [go_sem, f6], by simp [go_sem, f7]⟩
theorem below_setx {B : Nat} {a u : World} (h : Below B a u) (n : Nat) (hn : B ≤ n) (v0 v1 v2 v3 : Value) : Below B a ((((u.setCell ⟨n, 0, none⟩ (v0)).setCell ⟨n, 1, none⟩ (v1)).setCell ⟨n, 2, none⟩ (v2)).setCell ⟨n, 3, none⟩ (v3)) := (((h.setCell (p := ⟨n, 0, none⟩) hn _).setCell (p := ⟨n, 1, none⟩) hn _).setCell (p := ⟨n, 2, none⟩) hn _).setCell (p := ⟨n, 3, none⟩) hn _
theorem fr_setz {u : World} {b : Nat} {x z : Int} (h : Fr u b x z) (y : Int) : Fr ((((u.setCell ⟨b, 4, none⟩ (.int .u64 (e0 y))).setCell ⟨b, 5, none⟩ (.int .u64 (e1 y))).setCell ⟨b, 6, none⟩ (.int .u64 (e2 y))).setCell ⟨b, 7, none⟩ (.int .u64 (e3 y))) b x y := by
  obtain ⟨h0, h1, h2, h3, h4, h5, h6, h7⟩ := h
  exact ⟨by simp [go_sem, h0], by simp [go_sem, h1], by simp [go_sem, h2], by simp [go_sem, h3], by simp [go_sem, h4], by simp [go_sem, h5], by simp [go_sem, h6], by simp [go_sem, h7]⟩
theorem fo_setz {u : World} {b : Nat} (h : Fo u b) (v0 v1 v2 v3 : Value) : Fo ((((u.setCell ⟨b, 4, none⟩ (v0)).setCell ⟨b, 5, none⟩ (v1)).setCell ⟨b, 6, none⟩ (v2)).setCell ⟨b, 7, none⟩ (v3)) b := by
  obtain ⟨⟨x0, h0⟩, ⟨x1, h1⟩, ⟨x2, h2⟩, ⟨x3, h3⟩, ⟨x4, h4⟩, ⟨x5, h5⟩, ⟨x6, h6⟩, ⟨x7, h7⟩, f0, f1, f2, f3, f4, f5, f6, f7⟩ := h
  exact ⟨⟨_, by simp [go_sem, h0]; rfl⟩, ⟨_, by simp [go_sem, h1]; rfl⟩, ⟨_, by simp [go_sem, h2]; rfl⟩, ⟨_, by simp [go_sem, h3]; rfl⟩, ⟨_, by simp [go_sem, h4]; rfl⟩, ⟨_, by simp [go_sem, h5]; rfl⟩, ⟨_, by simp [go_sem, h6]; rfl⟩, ⟨_, by simp [go_sem, h7]; rfl⟩, by simp [go_sem, f0], by simp [go_sem, f1], by simp [go_sem, f2], by simp [go_sem, f3], by simp [go_sem, f4], by simp [go_sem, f5], by simp [go_sem, f6], by simp [go_sem, f7]⟩
theorem fr_othz {u : World} {b c : Nat} {x z : Int} (h : Fr u b x z) (hne : b ≠ c) (v0 v1 v2 v3 : Value) : Fr ((((u.setCell ⟨c, 4, none⟩ (v0)).setCell ⟨c, 5, none⟩ (v1)).setCell ⟨c, 6, none⟩ (v2)).setCell ⟨c, 7, none⟩ (v3)) b x z := by
  obtain ⟨h0, h1, h2, h3, h4, h5, h6, h7⟩ := h
  have hb : c ≠ b := fun e => hne e.symm
  exact ⟨by simp [go_sem, h0], by simp [go_sem, h1], by simp [go_sem, h2], by simp [go_sem, h3], by simp [go_sem, h4], by simp [go_sem, h5], by simp [go_sem, h6], by simp [go_sem, h7]⟩
theorem fo_othz {u : World} {b c : Nat} (h : Fo u b) (hne : b ≠ c) (v0 v1 v2 v3 : Value) : Fo ((((u.setCell ⟨c, 4, none⟩ (v0)).setCell ⟨c, 5, none⟩ (v1)).setCell ⟨c, 6, none⟩ (v2)).setCell ⟨c, 7, none⟩ (v3)) b := by
  obtain ⟨⟨x0, h0⟩, ⟨x1, h1⟩, ⟨x2, h2⟩, ⟨x3, h3⟩, ⟨x4, h4⟩, ⟨x5, h5⟩, ⟨x6, h6⟩, ⟨x7, h7⟩, f0, f1, f2, f3, f4, f5, f6, f7⟩ := h
  have hb : c ≠ b := fun e => hne e.symm
  exact ⟨⟨x0, by simp [go_sem, h0]⟩, ⟨x1, by simp [go_sem, h1]⟩, ⟨x2, by simp [go_sem, h2]⟩, ⟨x3, by simp [go_sem, h3]⟩, ⟨x4, by simp [go_sem, h4]⟩, ⟨x5, by simp [go_sem, h5]⟩, ⟨x6, by simp [go_sem, h6]⟩, ⟨x7, by simp [go_sem, h7]⟩, by simp [go_sem, f0], by simp [go_sem, f1], by simp [go_sem, f2], by simp [go_sem, f3], by simp [go_sem, f4], by simp [go_sem, f5], by simp [go_sem, f6], by simp [go_sem, f7]⟩
theorem below_setz {B : Nat} {a u : World} (h : Below B a u) (n : Nat) (hn : B ≤ n) (v0 v1 v2 v3 : Value) : Below B a ((((u.setCell ⟨n, 4, none⟩ (v0)).setCell ⟨n, 5, none⟩ (v1)).setCell ⟨n, 6, none⟩ (v2)).setCell ⟨n, 7, none⟩ (v3)) := (((h.setCell (p := ⟨n, 4, none⟩) hn _).setCell (p := ⟨n, 5, none⟩) hn _).setCell (p := ⟨n, 6, none⟩) hn _).setCell (p := ⟨n, 7, none⟩) hn _

set_option maxHeartbeats 4000000 in
theorem changed_even (x2 z2 x3 z3 n : Int) (hx2 : El x2) (hz2 : El z2) (hx3 : El x3) (hz3 : El z3) (hn : Wd n) (hp : n % 2 = 0) (w : World) :
    Calls Tryd.prog 38 #[(.agg #[.int .u64 (e0 x2), .int .u64 (e1 x2), .int .u64 (e2 x2), .int .u64 (e3 x2), .int .u64 (e0 z2), .int .u64 (e1 z2), .int .u64 (e2 z2), .int .u64 (e3 z2)]), (.agg #[.int .u64 (e0 x3), .int .u64 (e1 x3), .int .u64 (e2 x3), .int .u64 (e3 x3), .int .u64 (e0 z3), .int .u64 (e1 z3), .int .u64 (e2 z3), .int .u64 (e3 z3)]), .int .u64 n] w fun e w' => e = .returned (.tuple #[(.agg #[.int .u64 (e0 x2), .int .u64 (e1 x2), .int .u64 (e2 x2), .int .u64 (e3 x2), .int .u64 (e0 z2), .int .u64 (e1 z2), .int .u64 (e2 z2), .int .u64 (e3 z2)]), (.agg #[.int .u64 (e0 x3), .int .u64 (e1 x3), .int .u64 (e2 x3), .int .u64 (e3 x3), .int .u64 (e0 z3), .int .u64 (e1 z3), .int .u64 (e2 z3), .int .u64 (e3 z3)])]) ∧ Below w.heap.size w w' := by
  go_enter Tryd.func38, Tryd.ntmps38
  go_upto_region 1 with fail
  have HB : Hid (Below w.heap.size w ((((w.alloc (.cells #[.int .u64 (e0 x2), .int .u64 (e1 x2), .int .u64 (e2 x2), .int .u64 (e3 x2), .int .u64 (e0 z2), .int .u64 (e1 z2), .int .u64 (e2 z2), .int .u64 (e3 z2)] 63)).alloc (.cells #[.int .u64 (e0 x3), .int .u64 (e1 x3), .int .u64 (e2 x3), .int .u64 (e3 x3), .int .u64 (e0 z3), .int .u64 (e1 z3), .int .u64 (e2 z3), .int .u64 (e3 z3)] 63)).alloc (.cells #[.int .u64 0, .int .u64 0, .int .u64 0, .int .u64 0, .int .u64 0, .int .u64 0, .int .u64 0, .int .u64 0] 63)).alloc (.cells #[.int .u64 0, .int .u64 0, .int .u64 0, .int .u64 0, .int .u64 0, .int .u64 0, .int .u64 0, .int .u64 0] 63))) := bel4 _ _ _ _ _
  have F3 : Hid (Fr ((((w.alloc (.cells #[.int .u64 (e0 x2), .int .u64 (e1 x2), .int .u64 (e2 x2), .int .u64 (e3 x2), .int .u64 (e0 z2), .int .u64 (e1 z2), .int .u64 (e2 z2), .int .u64 (e3 z2)] 63)).alloc (.cells #[.int .u64 (e0 x3), .int .u64 (e1 x3), .int .u64 (e2 x3), .int .u64 (e3 x3), .int .u64 (e0 z3), .int .u64 (e1 z3), .int .u64 (e2 z3), .int .u64 (e3 z3)] 63)).alloc (.cells #[.int .u64 0, .int .u64 0, .int .u64 0, .int .u64 0, .int .u64 0, .int .u64 0, .int .u64 0, .int .u64 0] 63)).alloc (.cells #[.int .u64 0, .int .u64 0, .int .u64 0, .int .u64 0, .int .u64 0, .int .u64 0, .int .u64 0, .int .u64 0] 63)) (w.heap.size) x2 z2) := ⟨by simp [go_sem], by simp [go_sem], by simp [go_sem], by simp [go_sem], by simp [go_sem], by simp [go_sem], by simp [go_sem], by simp [go_sem]⟩
  have F4 : Hid (Fr ((((w.alloc (.cells #[.int .u64 (e0 x2), .int .u64 (e1 x2), .int .u64 (e2 x2), .int .u64 (e3 x2), .int .u64 (e0 z2), .int .u64 (e1 z2), .int .u64 (e2 z2), .int .u64 (e3 z2)] 63)).alloc (.cells #[.int .u64 (e0 x3), .int .u64 (e1 x3), .int .u64 (e2 x3), .int .u64 (e3 x3), .int .u64 (e0 z3), .int .u64 (e1 z3), .int .u64 (e2 z3), .int .u64 (e3 z3)] 63)).alloc (.cells #[.int .u64 0, .int .u64 0, .int .u64 0, .int .u64 0, .int .u64 0, .int .u64 0, .int .u64 0, .int .u64 0] 63)).alloc (.cells #[.int .u64 0, .int .u64 0, .int .u64 0, .int .u64 0, .int .u64 0, .int .u64 0, .int .u64 0, .int .u64 0] 63)) (w.heap.size + 1) x3 z3) := ⟨by simp [go_sem], by simp [go_sem], by simp [go_sem], by simp [go_sem], by simp [go_sem], by simp [go_sem], by simp [go_sem], by simp [go_sem]⟩
  have O6 : Hid (Fo ((((w.alloc (.cells #[.int .u64 (e0 x2), .int .u64 (e1 x2), .int .u64 (e2 x2), .int .u64 (e3 x2), .int .u64 (e0 z2), .int .u64 (e1 z2), .int .u64 (e2 z2), .int .u64 (e3 z2)] 63)).alloc (.cells #[.int .u64 (e0 x3), .int .u64 (e1 x3), .int .u64 (e2 x3), .int .u64 (e3 x3), .int .u64 (e0 z3), .int .u64 (e1 z3), .int .u64 (e2 z3), .int .u64 (e3 z3)] 63)).alloc (.cells #[.int .u64 0, .int .u64 0, .int .u64 0, .int .u64 0, .int .u64 0, .int .u64 0, .int .u64 0, .int .u64 0] 63)).alloc (.cells #[.int .u64 0, .int .u64 0, .int .u64 0, .int .u64 0, .int .u64 0, .int .u64 0, .int .u64 0, .int .u64 0] 63)) (w.heap.size + 1 + 1)) := ⟨⟨_, by simp [go_sem]; rfl⟩, ⟨_, by simp [go_sem]; rfl⟩, ⟨_, by simp [go_sem]; rfl⟩, ⟨_, by simp [go_sem]; rfl⟩, ⟨_, by simp [go_sem]; rfl⟩, ⟨_, by simp [go_sem]; rfl⟩, ⟨_, by simp [go_sem]; rfl⟩, ⟨_, by simp [go_sem]; rfl⟩, by simp [go_sem], by simp [go_sem], by simp [go_sem], by simp [go_sem], by simp [go_sem], by simp [go_sem], by simp [go_sem], by simp [go_sem]⟩
  have O7 : Hid (Fo ((((w.alloc (.cells #[.int .u64 (e0 x2), .int .u64 (e1 x2), .int .u64 (e2 x2), .int .u64 (e3 x2), .int .u64 (e0 z2), .int .u64 (e1 z2), .int .u64 (e2 z2), .int .u64 (e3 z2)] 63)).alloc (.cells #[.int .u64 (e0 x3), .int .u64 (e1 x3), .int .u64 (e2 x3), .int .u64 (e3 x3), .int .u64 (e0 z3), .int .u64 (e1 z3), .int .u64 (e2 z3), .int .u64 (e3 z3)] 63)).alloc (.cells #[.int .u64 0, .int .u64 0, .int .u64 0, .int .u64 0, .int .u64 0, .int .u64 0, .int .u64 0, .int .u64 0] 63)).alloc (.cells #[.int .u64 0, .int .u64 0, .int .u64 0, .int .u64 0, .int .u64 0, .int .u64 0, .int .u64 0, .int .u64 0] 63)) (w.heap.size + 1 + 1 + 1)) := ⟨⟨_, by simp [go_sem]; rfl⟩, ⟨_, by simp [go_sem]; rfl⟩, ⟨_, by simp [go_sem]; rfl⟩, ⟨_, by simp [go_sem]; rfl⟩, ⟨_, by simp [go_sem]; rfl⟩, ⟨_, by simp [go_sem]; rfl⟩, ⟨_, by simp [go_sem]; rfl⟩, ⟨_, by simp [go_sem]; rfl⟩, by simp [go_sem], by simp [go_sem], by simp [go_sem], by simp [go_sem], by simp [go_sem], by simp [go_sem], by simp [go_sem], by simp [go_sem]⟩
  have O3 : Hid (Fo ((((w.alloc (.cells #[.int .u64 (e0 x2), .int .u64 (e1 x2), .int .u64 (e2 x2), .int .u64 (e3 x2), .int .u64 (e0 z2), .int .u64 (e1 z2), .int .u64 (e2 z2), .int .u64 (e3 z2)] 63)).alloc (.cells #[.int .u64 (e0 x3), .int .u64 (e1 x3), .int .u64 (e2 x3), .int .u64 (e3 x3), .int .u64 (e0 z3), .int .u64 (e1 z3), .int .u64 (e2 z3), .int .u64 (e3 z3)] 63)).alloc (.cells #[.int .u64 0, .int .u64 0, .int .u64 0, .int .u64 0, .int .u64 0, .int .u64 0, .int .u64 0, .int .u64 0] 63)).alloc (.cells #[.int .u64 0, .int .u64 0, .int .u64 0, .int .u64 0, .int .u64 0, .int .u64 0, .int .u64 0, .int .u64 0] 63)) (w.heap.size)) := ⟨⟨_, by simp [go_sem]; rfl⟩, ⟨_, by simp [go_sem]; rfl⟩, ⟨_, by simp [go_sem]; rfl⟩, ⟨_, by simp [go_sem]; rfl⟩, ⟨_, by simp [go_sem]; rfl⟩, ⟨_, by simp [go_sem]; rfl⟩, ⟨_, by simp [go_sem]; rfl⟩, ⟨_, by simp [go_sem]; rfl⟩, by simp [go_sem], by simp [go_sem], by simp [go_sem], by simp [go_sem], by simp [go_sem], by simp [go_sem], by simp [go_sem], by simp [go_sem]⟩
  have O4 : Hid (Fo ((((w.alloc (.cells #[.int .u64 (e0 x2), .int .u64 (e1 x2), .int .u64 (e2 x2), .int .u64 (e3 x2), .int .u64 (e0 z2), .int .u64 (e1 z2), .int .u64 (e2 z2), .int .u64 (e3 z2)] 63)).alloc (.cells #[.int .u64 (e0 x3), .int .u64 (e1 x3), .int .u64 (e2 x3), .int .u64 (e3 x3), .int .u64 (e0 z3), .int .u64 (e1 z3), .int .u64 (e2 z3), .int .u64 (e3 z3)] 63)).alloc (.cells #[.int .u64 0, .int .u64 0, .int .u64 0, .int .u64 0, .int .u64 0, .int .u64 0, .int .u64 0, .int .u64 0] 63)).alloc (.cells #[.int .u64 0, .int .u64 0, .int .u64 0, .int .u64 0, .int .u64 0, .int .u64 0, .int .u64 0, .int .u64 0] 63)) (w.heap.size + 1)) := ⟨⟨_, by simp [go_sem]; rfl⟩, ⟨_, by simp [go_sem]; rfl⟩, ⟨_, by simp [go_sem]; rfl⟩, ⟨_, by simp [go_sem]; rfl⟩, ⟨_, by simp [go_sem]; rfl⟩, ⟨_, by simp [go_sem]; rfl⟩, ⟨_, by simp [go_sem]; rfl⟩, ⟨_, by simp [go_sem]; rfl⟩, by simp [go_sem], by simp [go_sem], by simp [go_sem], by simp [go_sem], by simp [go_sem], by simp [go_sem], by simp [go_sem], by simp [go_sem]⟩
  generalize (((w.alloc (.cells #[.int .u64 (e0 x2), .int .u64 (e1 x2), .int .u64 (e2 x2), .int .u64 (e3 x2), .int .u64 (e0 z2), .int .u64 (e1 z2), .int .u64 (e2 z2), .int .u64 (e3 z2)] 63)).alloc (.cells #[.int .u64 (e0 x3), .int .u64 (e1 x3), .int .u64 (e2 x3), .int .u64 (e3 x3), .int .u64 (e0 z3), .int .u64 (e1 z3), .int .u64 (e2 z3), .int .u64 (e3 z3)] 63)).alloc (.cells #[.int .u64 0, .int .u64 0, .int .u64 0, .int .u64 0, .int .u64 0, .int .u64 0, .int .u64 0, .int .u64 0] 63)).alloc (.cells #[.int .u64 0, .int .u64 0, .int .u64 0, .int .u64 0, .int .u64 0, .int .u64 0, .int .u64 0, .int .u64 0] 63) = W0 at *
  have hq1 : w.heap.size < w.heap.size + 1 := by omega
  have hq2 : w.heap.size + 1 < w.heap.size + 1 + 1 := by omega
  have hq3 : w.heap.size + 1 + 1 < w.heap.size + 1 + 1 + 1 := by omega
  have hw3 : w.heap.size ≤ w.heap.size + 1 + 1 + 1 := by omega
  have hw2 : w.heap.size ≤ w.heap.size + 1 + 1 := by omega
  have hw1 : w.heap.size ≤ w.heap.size + 1 := by omega
  have hw0 : w.heap.size ≤ w.heap.size := Nat.le_refl _
  generalize w.heap.size + 1 + 1 + 1 = q3 at *
  generalize w.heap.size + 1 + 1 = q2 at *
  generalize w.heap.size + 1 = q1 at *
  obtain ⟨q0, hq0⟩ : ∃ q, q = w.heap.size := ⟨_, rfl⟩
  clear hq0 q0
  obtain ⟨a0, a1, a2, a3, a4, a5, a6, a7⟩ := F3.out
  obtain ⟨b0, b1, b2, b3, b4, b5, b6, b7⟩ := F4.out
  go_wp2_with fail
  clear a0 b0 a1 b1 a2 b2 a3 b3 a4 b4 a5 b5 a6 b6 a7 b7
  refine (swap_even x2 x3 n hx2 hx3 hn hp _).mono ?_
  rintro e u1 ⟨rfl, hb⟩
  replace F3 : Hid (Fr u1 w.heap.size x2 z2) := F3.out.later hb
  replace F4 : Hid (Fr u1 q1 x3 z3) := F4.out.later hb
  replace O3 : Hid (Fo u1 w.heap.size) := O3.out.later hb
  replace O4 : Hid (Fo u1 q1) := O4.out.later hb
  replace O6 : Hid (Fo u1 q2) := O6.out.later hb
  replace O7 : Hid (Fo u1 q3) := O7.out.later hb
  replace HB : Hid (Below w.heap.size w u1) := HB.out.trans (Below.mono hb HB.out.size)
  clear hb
  obtain ⟨⟨_, a0⟩, ⟨_, a1⟩, ⟨_, a2⟩, ⟨_, a3⟩, ⟨_, a4⟩, ⟨_, a5⟩, ⟨_, a6⟩, ⟨_, a7⟩, af0, af1, af2, af3, af4, af5, af6, af7⟩ := O3.out
  obtain ⟨⟨_, b0⟩, ⟨_, b1⟩, ⟨_, b2⟩, ⟨_, b3⟩, ⟨_, b4⟩, ⟨_, b5⟩, ⟨_, b6⟩, ⟨_, b7⟩, bf0, bf1, bf2, bf3, bf4, bf5, bf6, bf7⟩ := O4.out
  go_upto_region 2 with fail
  clear a0 b0 af0 bf0 a1 b1 af1 bf1 a2 b2 af2 bf2 a3 b3 af3 bf3 a4 b4 af4 bf4 a5 b5 af5 bf5 a6 b6 af6 bf6 a7 b7 af7 bf7
  have F3n : Hid (Fr ((((((((u1.setCell ⟨w.heap.size, 0, none⟩ (.int .u64 (e0 x2))).setCell ⟨w.heap.size, 1, none⟩ (.int .u64 (e1 x2))).setCell ⟨w.heap.size, 2, none⟩ (.int .u64 (e2 x2))).setCell ⟨w.heap.size, 3, none⟩ (.int .u64 (e3 x2))).setCell ⟨q1, 0, none⟩ (.int .u64 (e0 x3))).setCell ⟨q1, 1, none⟩ (.int .u64 (e1 x3))).setCell ⟨q1, 2, none⟩ (.int .u64 (e2 x3))).setCell ⟨q1, 3, none⟩ (.int .u64 (e3 x3))) (w.heap.size) x2 z2) := fr_othx (fr_setx F3.out x2) (by omega) _ _ _ _
  have F4n : Hid (Fr ((((((((u1.setCell ⟨w.heap.size, 0, none⟩ (.int .u64 (e0 x2))).setCell ⟨w.heap.size, 1, none⟩ (.int .u64 (e1 x2))).setCell ⟨w.heap.size, 2, none⟩ (.int .u64 (e2 x2))).setCell ⟨w.heap.size, 3, none⟩ (.int .u64 (e3 x2))).setCell ⟨q1, 0, none⟩ (.int .u64 (e0 x3))).setCell ⟨q1, 1, none⟩ (.int .u64 (e1 x3))).setCell ⟨q1, 2, none⟩ (.int .u64 (e2 x3))).setCell ⟨q1, 3, none⟩ (.int .u64 (e3 x3))) q1 x3 z3) := fr_setx (fr_othx F4.out (by omega) _ _ _ _) x3
  have O3n : Hid (Fo ((((((((u1.setCell ⟨w.heap.size, 0, none⟩ (.int .u64 (e0 x2))).setCell ⟨w.heap.size, 1, none⟩ (.int .u64 (e1 x2))).setCell ⟨w.heap.size, 2, none⟩ (.int .u64 (e2 x2))).setCell ⟨w.heap.size, 3, none⟩ (.int .u64 (e3 x2))).setCell ⟨q1, 0, none⟩ (.int .u64 (e0 x3))).setCell ⟨q1, 1, none⟩ (.int .u64 (e1 x3))).setCell ⟨q1, 2, none⟩ (.int .u64 (e2 x3))).setCell ⟨q1, 3, none⟩ (.int .u64 (e3 x3))) (w.heap.size)) := fo_othx (fo_setx O3.out _ _ _ _) (by omega) _ _ _ _
  have O4n : Hid (Fo ((((((((u1.setCell ⟨w.heap.size, 0, none⟩ (.int .u64 (e0 x2))).setCell ⟨w.heap.size, 1, none⟩ (.int .u64 (e1 x2))).setCell ⟨w.heap.size, 2, none⟩ (.int .u64 (e2 x2))).setCell ⟨w.heap.size, 3, none⟩ (.int .u64 (e3 x2))).setCell ⟨q1, 0, none⟩ (.int .u64 (e0 x3))).setCell ⟨q1, 1, none⟩ (.int .u64 (e1 x3))).setCell ⟨q1, 2, none⟩ (.int .u64 (e2 x3))).setCell ⟨q1, 3, none⟩ (.int .u64 (e3 x3))) q1) := fo_setx (fo_othx O4.out (by omega) _ _ _ _) _ _ _ _
  have O6n : Hid (Fo ((((((((u1.setCell ⟨w.heap.size, 0, none⟩ (.int .u64 (e0 x2))).setCell ⟨w.heap.size, 1, none⟩ (.int .u64 (e1 x2))).setCell ⟨w.heap.size, 2, none⟩ (.int .u64 (e2 x2))).setCell ⟨w.heap.size, 3, none⟩ (.int .u64 (e3 x2))).setCell ⟨q1, 0, none⟩ (.int .u64 (e0 x3))).setCell ⟨q1, 1, none⟩ (.int .u64 (e1 x3))).setCell ⟨q1, 2, none⟩ (.int .u64 (e2 x3))).setCell ⟨q1, 3, none⟩ (.int .u64 (e3 x3))) q2) := fo_othx (fo_othx O6.out (by omega) _ _ _ _) (by omega) _ _ _ _
  have O7n : Hid (Fo ((((((((u1.setCell ⟨w.heap.size, 0, none⟩ (.int .u64 (e0 x2))).setCell ⟨w.heap.size, 1, none⟩ (.int .u64 (e1 x2))).setCell ⟨w.heap.size, 2, none⟩ (.int .u64 (e2 x2))).setCell ⟨w.heap.size, 3, none⟩ (.int .u64 (e3 x2))).setCell ⟨q1, 0, none⟩ (.int .u64 (e0 x3))).setCell ⟨q1, 1, none⟩ (.int .u64 (e1 x3))).setCell ⟨q1, 2, none⟩ (.int .u64 (e2 x3))).setCell ⟨q1, 3, none⟩ (.int .u64 (e3 x3))) q3) := fo_othx (fo_othx O7.out (by omega) _ _ _ _) (by omega) _ _ _ _
  have HBn : Hid (Below w.heap.size w ((((((((u1.setCell ⟨w.heap.size, 0, none⟩ (.int .u64 (e0 x2))).setCell ⟨w.heap.size, 1, none⟩ (.int .u64 (e1 x2))).setCell ⟨w.heap.size, 2, none⟩ (.int .u64 (e2 x2))).setCell ⟨w.heap.size, 3, none⟩ (.int .u64 (e3 x2))).setCell ⟨q1, 0, none⟩ (.int .u64 (e0 x3))).setCell ⟨q1, 1, none⟩ (.int .u64 (e1 x3))).setCell ⟨q1, 2, none⟩ (.int .u64 (e2 x3))).setCell ⟨q1, 3, none⟩ (.int .u64 (e3 x3)))) := below_setx (below_setx HB.out _ (by omega) _ _ _ _) _ (by omega) _ _ _ _
  clear F3 F4 O3 O4 O6 O7 HB
  generalize (((((((u1.setCell ⟨w.heap.size, 0, none⟩ (.int .u64 (e0 x2))).setCell ⟨w.heap.size, 1, none⟩ (.int .u64 (e1 x2))).setCell ⟨w.heap.size, 2, none⟩ (.int .u64 (e2 x2))).setCell ⟨w.heap.size, 3, none⟩ (.int .u64 (e3 x2))).setCell ⟨q1, 0, none⟩ (.int .u64 (e0 x3))).setCell ⟨q1, 1, none⟩ (.int .u64 (e1 x3))).setCell ⟨q1, 2, none⟩ (.int .u64 (e2 x3))).setCell ⟨q1, 3, none⟩ (.int .u64 (e3 x3)) = W1 at *
  have F3 := F3n
  clear F3n
  have F4 := F4n
  clear F4n
  have O3 := O3n
  clear O3n
  have O4 := O4n
  clear O4n
  have O6 := O6n
  clear O6n
  have O7 := O7n
  clear O7n
  have HB := HBn
  clear HBn
  obtain ⟨a0, a1, a2, a3, a4, a5, a6, a7⟩ := F3.out
  obtain ⟨b0, b1, b2, b3, b4, b5, b6, b7⟩ := F4.out
  go_wp2_with fail
  clear a0 b0 a1 b1 a2 b2 a3 b3 a4 b4 a5 b5 a6 b6 a7 b7
  refine (swap_even z2 z3 n hz2 hz3 hn hp _).mono ?_
  rintro e u2 ⟨rfl, hb⟩
  replace F3 : Hid (Fr u2 (w.heap.size) x2 z2) := F3.out.later hb
  replace F4 : Hid (Fr u2 q1 x3 z3) := F4.out.later hb
  replace O3 : Hid (Fo u2 w.heap.size) := O3.out.later hb
  replace O4 : Hid (Fo u2 q1) := O4.out.later hb
  replace O6 : Hid (Fo u2 q2) := O6.out.later hb
  replace O7 : Hid (Fo u2 q3) := O7.out.later hb
  replace HB : Hid (Below w.heap.size w u2) := HB.out.trans (Below.mono hb HB.out.size)
  clear hb
  obtain ⟨⟨_, a0⟩, ⟨_, a1⟩, ⟨_, a2⟩, ⟨_, a3⟩, ⟨_, a4⟩, ⟨_, a5⟩, ⟨_, a6⟩, ⟨_, a7⟩, af0, af1, af2, af3, af4, af5, af6, af7⟩ := O3.out
  obtain ⟨⟨_, b0⟩, ⟨_, b1⟩, ⟨_, b2⟩, ⟨_, b3⟩, ⟨_, b4⟩, ⟨_, b5⟩, ⟨_, b6⟩, ⟨_, b7⟩, bf0, bf1, bf2, bf3, bf4, bf5, bf6, bf7⟩ := O4.out
  go_upto_region 3 with fail
  clear a0 b0 af0 bf0 a1 b1 af1 bf1 a2 b2 af2 bf2 a3 b3 af3 bf3 a4 b4 af4 bf4 a5 b5 af5 bf5 a6 b6 af6 bf6 a7 b7 af7 bf7
  have F3n : Hid (Fr ((((((((u2.setCell ⟨w.heap.size, 4, none⟩ (.int .u64 (e0 z2))).setCell ⟨w.heap.size, 5, none⟩ (.int .u64 (e1 z2))).setCell ⟨w.heap.size, 6, none⟩ (.int .u64 (e2 z2))).setCell ⟨w.heap.size, 7, none⟩ (.int .u64 (e3 z2))).setCell ⟨q1, 4, none⟩ (.int .u64 (e0 z3))).setCell ⟨q1, 5, none⟩ (.int .u64 (e1 z3))).setCell ⟨q1, 6, none⟩ (.int .u64 (e2 z3))).setCell ⟨q1, 7, none⟩ (.int .u64 (e3 z3))) (w.heap.size) x2 z2) := fr_othz (fr_setz F3.out z2) (by omega) _ _ _ _
  have F4n : Hid (Fr ((((((((u2.setCell ⟨w.heap.size, 4, none⟩ (.int .u64 (e0 z2))).setCell ⟨w.heap.size, 5, none⟩ (.int .u64 (e1 z2))).setCell ⟨w.heap.size, 6, none⟩ (.int .u64 (e2 z2))).setCell ⟨w.heap.size, 7, none⟩ (.int .u64 (e3 z2))).setCell ⟨q1, 4, none⟩ (.int .u64 (e0 z3))).setCell ⟨q1, 5, none⟩ (.int .u64 (e1 z3))).setCell ⟨q1, 6, none⟩ (.int .u64 (e2 z3))).setCell ⟨q1, 7, none⟩ (.int .u64 (e3 z3))) q1 x3 z3) := fr_setz (fr_othz F4.out (by omega) _ _ _ _) z3
  have O3n : Hid (Fo ((((((((u2.setCell ⟨w.heap.size, 4, none⟩ (.int .u64 (e0 z2))).setCell ⟨w.heap.size, 5, none⟩ (.int .u64 (e1 z2))).setCell ⟨w.heap.size, 6, none⟩ (.int .u64 (e2 z2))).setCell ⟨w.heap.size, 7, none⟩ (.int .u64 (e3 z2))).setCell ⟨q1, 4, none⟩ (.int .u64 (e0 z3))).setCell ⟨q1, 5, none⟩ (.int .u64 (e1 z3))).setCell ⟨q1, 6, none⟩ (.int .u64 (e2 z3))).setCell ⟨q1, 7, none⟩ (.int .u64 (e3 z3))) (w.heap.size)) := fo_othz (fo_setz O3.out _ _ _ _) (by omega) _ _ _ _
  have O4n : Hid (Fo ((((((((u2.setCell ⟨w.heap.size, 4, none⟩ (.int .u64 (e0 z2))).setCell ⟨w.heap.size, 5, none⟩ (.int .u64 (e1 z2))).setCell ⟨w.heap.size, 6, none⟩ (.int .u64 (e2 z2))).setCell ⟨w.heap.size, 7, none⟩ (.int .u64 (e3 z2))).setCell ⟨q1, 4, none⟩ (.int .u64 (e0 z3))).setCell ⟨q1, 5, none⟩ (.int .u64 (e1 z3))).setCell ⟨q1, 6, none⟩ (.int .u64 (e2 z3))).setCell ⟨q1, 7, none⟩ (.int .u64 (e3 z3))) q1) := fo_setz (fo_othz O4.out (by omega) _ _ _ _) _ _ _ _
  have O6n : Hid (Fo ((((((((u2.setCell ⟨w.heap.size, 4, none⟩ (.int .u64 (e0 z2))).setCell ⟨w.heap.size, 5, none⟩ (.int .u64 (e1 z2))).setCell ⟨w.heap.size, 6, none⟩ (.int .u64 (e2 z2))).setCell ⟨w.heap.size, 7, none⟩ (.int .u64 (e3 z2))).setCell ⟨q1, 4, none⟩ (.int .u64 (e0 z3))).setCell ⟨q1, 5, none⟩ (.int .u64 (e1 z3))).setCell ⟨q1, 6, none⟩ (.int .u64 (e2 z3))).setCell ⟨q1, 7, none⟩ (.int .u64 (e3 z3))) q2) := fo_othz (fo_othz O6.out (by omega) _ _ _ _) (by omega) _ _ _ _
  have O7n : Hid (Fo ((((((((u2.setCell ⟨w.heap.size, 4, none⟩ (.int .u64 (e0 z2))).setCell ⟨w.heap.size, 5, none⟩ (.int .u64 (e1 z2))).setCell ⟨w.heap.size, 6, none⟩ (.int .u64 (e2 z2))).setCell ⟨w.heap.size, 7, none⟩ (.int .u64 (e3 z2))).setCell ⟨q1, 4, none⟩ (.int .u64 (e0 z3))).setCell ⟨q1, 5, none⟩ (.int .u64 (e1 z3))).setCell ⟨q1, 6, none⟩ (.int .u64 (e2 z3))).setCell ⟨q1, 7, none⟩ (.int .u64 (e3 z3))) q3) := fo_othz (fo_othz O7.out (by omega) _ _ _ _) (by omega) _ _ _ _
  have HBn : Hid (Below w.heap.size w ((((((((u2.setCell ⟨w.heap.size, 4, none⟩ (.int .u64 (e0 z2))).setCell ⟨w.heap.size, 5, none⟩ (.int .u64 (e1 z2))).setCell ⟨w.heap.size, 6, none⟩ (.int .u64 (e2 z2))).setCell ⟨w.heap.size, 7, none⟩ (.int .u64 (e3 z2))).setCell ⟨q1, 4, none⟩ (.int .u64 (e0 z3))).setCell ⟨q1, 5, none⟩ (.int .u64 (e1 z3))).setCell ⟨q1, 6, none⟩ (.int .u64 (e2 z3))).setCell ⟨q1, 7, none⟩ (.int .u64 (e3 z3)))) := below_setz (below_setz HB.out _ (by omega) _ _ _ _) _ (by omega) _ _ _ _
  clear F3 F4 O3 O4 O6 O7 HB
  generalize (((((((u2.setCell ⟨w.heap.size, 4, none⟩ (.int .u64 (e0 z2))).setCell ⟨w.heap.size, 5, none⟩ (.int .u64 (e1 z2))).setCell ⟨w.heap.size, 6, none⟩ (.int .u64 (e2 z2))).setCell ⟨w.heap.size, 7, none⟩ (.int .u64 (e3 z2))).setCell ⟨q1, 4, none⟩ (.int .u64 (e0 z3))).setCell ⟨q1, 5, none⟩ (.int .u64 (e1 z3))).setCell ⟨q1, 6, none⟩ (.int .u64 (e2 z3))).setCell ⟨q1, 7, none⟩ (.int .u64 (e3 z3)) = W2 at *
  have F3 := F3n
  clear F3n
  have F4 := F4n
  clear F4n
  have O3 := O3n
  clear O3n
  have O4 := O4n
  clear O4n
  have O6 := O6n
  clear O6n
  have O7 := O7n
  clear O7n
  have HB := HBn
  clear HBn
  clear O3 O4
  obtain ⟨F3c0, F3c1, F3c2, F3c3, F3c4, F3c5, F3c6, F3c7⟩ := F3.out
  have F3u0 : ∀ u, ExtL [q2, q3] W2 u → u.cell? ⟨w.heap.size, 0, none⟩ = some (.int .u64 (e0 x2)) := fun u hu => hu.cell (by simp only [List.mem_cons, List.not_mem_nil, or_false]; omega) F3c0
  have F3u1 : ∀ u, ExtL [q2, q3] W2 u → u.cell? ⟨w.heap.size, 1, none⟩ = some (.int .u64 (e1 x2)) := fun u hu => hu.cell (by simp only [List.mem_cons, List.not_mem_nil, or_false]; omega) F3c1
  have F3u2 : ∀ u, ExtL [q2, q3] W2 u → u.cell? ⟨w.heap.size, 2, none⟩ = some (.int .u64 (e2 x2)) := fun u hu => hu.cell (by simp only [List.mem_cons, List.not_mem_nil, or_false]; omega) F3c2
  have F3u3 : ∀ u, ExtL [q2, q3] W2 u → u.cell? ⟨w.heap.size, 3, none⟩ = some (.int .u64 (e3 x2)) := fun u hu => hu.cell (by simp only [List.mem_cons, List.not_mem_nil, or_false]; omega) F3c3
  have F3u4 : ∀ u, ExtL [q2, q3] W2 u → u.cell? ⟨w.heap.size, 4, none⟩ = some (.int .u64 (e0 z2)) := fun u hu => hu.cell (by simp only [List.mem_cons, List.not_mem_nil, or_false]; omega) F3c4
  have F3u5 : ∀ u, ExtL [q2, q3] W2 u → u.cell? ⟨w.heap.size, 5, none⟩ = some (.int .u64 (e1 z2)) := fun u hu => hu.cell (by simp only [List.mem_cons, List.not_mem_nil, or_false]; omega) F3c5
  have F3u6 : ∀ u, ExtL [q2, q3] W2 u → u.cell? ⟨w.heap.size, 6, none⟩ = some (.int .u64 (e2 z2)) := fun u hu => hu.cell (by simp only [List.mem_cons, List.not_mem_nil, or_false]; omega) F3c6
  have F3u7 : ∀ u, ExtL [q2, q3] W2 u → u.cell? ⟨w.heap.size, 7, none⟩ = some (.int .u64 (e3 z2)) := fun u hu => hu.cell (by simp only [List.mem_cons, List.not_mem_nil, or_false]; omega) F3c7
  clear F3c0 F3c1 F3c2 F3c3 F3c4 F3c5 F3c6 F3c7
  obtain ⟨F4c0, F4c1, F4c2, F4c3, F4c4, F4c5, F4c6, F4c7⟩ := F4.out
  have F4u0 : ∀ u, ExtL [q2, q3] W2 u → u.cell? ⟨q1, 0, none⟩ = some (.int .u64 (e0 x3)) := fun u hu => hu.cell (by simp only [List.mem_cons, List.not_mem_nil, or_false]; omega) F4c0
  have F4u1 : ∀ u, ExtL [q2, q3] W2 u → u.cell? ⟨q1, 1, none⟩ = some (.int .u64 (e1 x3)) := fun u hu => hu.cell (by simp only [List.mem_cons, List.not_mem_nil, or_false]; omega) F4c1
  have F4u2 : ∀ u, ExtL [q2, q3] W2 u → u.cell? ⟨q1, 2, none⟩ = some (.int .u64 (e2 x3)) := fun u hu => hu.cell (by simp only [List.mem_cons, List.not_mem_nil, or_false]; omega) F4c2
  have F4u3 : ∀ u, ExtL [q2, q3] W2 u → u.cell? ⟨q1, 3, none⟩ = some (.int .u64 (e3 x3)) := fun u hu => hu.cell (by simp only [List.mem_cons, List.not_mem_nil, or_false]; omega) F4c3
  have F4u4 : ∀ u, ExtL [q2, q3] W2 u → u.cell? ⟨q1, 4, none⟩ = some (.int .u64 (e0 z3)) := fun u hu => hu.cell (by simp only [List.mem_cons, List.not_mem_nil, or_false]; omega) F4c4
  have F4u5 : ∀ u, ExtL [q2, q3] W2 u → u.cell? ⟨q1, 5, none⟩ = some (.int .u64 (e1 z3)) := fun u hu => hu.cell (by simp only [List.mem_cons, List.not_mem_nil, or_false]; omega) F4c5
  have F4u6 : ∀ u, ExtL [q2, q3] W2 u → u.cell? ⟨q1, 6, none⟩ = some (.int .u64 (e2 z3)) := fun u hu => hu.cell (by simp only [List.mem_cons, List.not_mem_nil, or_false]; omega) F4c6
  have F4u7 : ∀ u, ExtL [q2, q3] W2 u → u.cell? ⟨q1, 7, none⟩ = some (.int .u64 (e3 z3)) := fun u hu => hu.cell (by simp only [List.mem_cons, List.not_mem_nil, or_false]; omega) F4c7
  clear F4c0 F4c1 F4c2 F4c3 F4c4 F4c5 F4c6 F4c7
  refine wp_region_noPanic ?_
  refine wp_region_held_drew (S := ExtL [q2, q3] W2) (by kernel_rfl) (ExtL.refl _ _).drew (fun hH => ?_)
  change wpAnyH _ _ _ _ _ _ #[false, false, false, false] _ _
  replace O6 : Hid (Fo W2.drew q2) := O6.out.later (Below.refl _ _).drew
  replace O7 : Hid (Fo W2.drew q3) := O7.out.later (Below.refl _ _).drew
  generalize W2.drew = y0 at *
  refine wpAnyH_take (i := 0) (oi := ?o0r3) (v := ?v0r3) ?h0r3 (by kernel_rfl) ?f0r3 ?r0r3 (fun _ _ _ h => h) (Or.inl ⟨?w0r3, ?y0r3⟩) (by assumption) ?t0r3
  case h0r3 => simp only [List.getElem?_toArray]; rfl
  case f0r3 => kernel_rfl
  case r0r3 => kernel_rfl
  case w0r3 => rfl
  case y0r3 => (intro u hu; (go_simp) <;> with_reducible rfl)
  try simp only [Act.put, List.setIfInBounds_toArray, List.set_cons_zero, List.set_cons_succ]
  refine wpAnyH_take (i := 1) (oi := ?o1r3) (v := ?v1r3) ?h1r3 (by kernel_rfl) ?f1r3 ?r1r3 (fun _ _ _ h => h) (Or.inl ⟨?w1r3, ?y1r3⟩) (by assumption) ?t1r3
  case h1r3 => simp only [List.getElem?_toArray]; rfl
  case f1r3 => kernel_rfl
  case r1r3 => kernel_rfl
  case w1r3 => rfl
  case y1r3 => (intro u hu; (go_simp) <;> with_reducible rfl)
  try simp only [Act.put, List.setIfInBounds_toArray, List.set_cons_zero, List.set_cons_succ]
  obtain ⟨⟨_, nc0⟩, ⟨_, nc1⟩, ⟨_, nc2⟩, ⟨_, nc3⟩, ⟨_, nc4⟩, ⟨_, nc5⟩, ⟨_, nc6⟩, ⟨_, nc7⟩, nf0, nf1, nf2, nf3, nf4, nf5, nf6, nf7⟩ := O6.out
  refine wpAnyH_ready (rs := [2]) (by kernel_rfl) (by simp) ?_
  refine AllReadyH.cons (o := ?o2r3) ?h2r3 (fun K hK => ?_) AllReadyH.nil
  case h2r3 => simp only [List.getElem?_toArray]; rfl
  go_simp
  refine hK.out _ _ (hH.set8 (by simp) _ _ _ _ _ _ _ _) (fun hH' => ?_)
  clear hK K hH
  have hH := hH'
  clear hH'
  try simp only [List.setIfInBounds_toArray, List.set]
  have R6 : Hid (Fr ((((((((y0.setCell ⟨q2, 0, none⟩ (.int .u64 (e0 x2))).setCell ⟨q2, 1, none⟩ (.int .u64 (e1 x2))).setCell ⟨q2, 2, none⟩ (.int .u64 (e2 x2))).setCell ⟨q2, 3, none⟩ (.int .u64 (e3 x2))).setCell ⟨q2, 4, none⟩ (.int .u64 (e0 z2))).setCell ⟨q2, 5, none⟩ (.int .u64 (e1 z2))).setCell ⟨q2, 6, none⟩ (.int .u64 (e2 z2))).setCell ⟨q2, 7, none⟩ (.int .u64 (e3 z2))) q2 x2 z2) := fr_set y0 q2 x2 z2 O6.out
  clear O6
  replace O7 : Hid (Fo ((((((((y0.setCell ⟨q2, 0, none⟩ (.int .u64 (e0 x2))).setCell ⟨q2, 1, none⟩ (.int .u64 (e1 x2))).setCell ⟨q2, 2, none⟩ (.int .u64 (e2 x2))).setCell ⟨q2, 3, none⟩ (.int .u64 (e3 x2))).setCell ⟨q2, 4, none⟩ (.int .u64 (e0 z2))).setCell ⟨q2, 5, none⟩ (.int .u64 (e1 z2))).setCell ⟨q2, 6, none⟩ (.int .u64 (e2 z2))).setCell ⟨q2, 7, none⟩ (.int .u64 (e3 z2))) q3) := fo_o8 O7.out (by omega) _ _ _ _ _ _ _ _
  clear nc0 nf0 nc1 nf1 nc2 nf2 nc3 nf3 nc4 nf4 nc5 nf5 nc6 nf6 nc7 nf7
  generalize (((((((y0.setCell ⟨q2, 0, none⟩ (.int .u64 (e0 x2))).setCell ⟨q2, 1, none⟩ (.int .u64 (e1 x2))).setCell ⟨q2, 2, none⟩ (.int .u64 (e2 x2))).setCell ⟨q2, 3, none⟩ (.int .u64 (e3 x2))).setCell ⟨q2, 4, none⟩ (.int .u64 (e0 z2))).setCell ⟨q2, 5, none⟩ (.int .u64 (e1 z2))).setCell ⟨q2, 6, none⟩ (.int .u64 (e2 z2))).setCell ⟨q2, 7, none⟩ (.int .u64 (e3 z2)) = x3_2 at *
  obtain ⟨⟨_, nc0⟩, ⟨_, nc1⟩, ⟨_, nc2⟩, ⟨_, nc3⟩, ⟨_, nc4⟩, ⟨_, nc5⟩, ⟨_, nc6⟩, ⟨_, nc7⟩, nf0, nf1, nf2, nf3, nf4, nf5, nf6, nf7⟩ := O7.out
  refine wpAnyH_ready (rs := [3]) (by kernel_rfl) (by simp) ?_
  refine AllReadyH.cons (o := ?o3r3) ?h3r3 (fun K hK => ?_) AllReadyH.nil
  case h3r3 => simp only [List.getElem?_toArray]; rfl
  go_simp
  refine hK.out _ _ (hH.set8 (by simp) _ _ _ _ _ _ _ _) (fun hH' => ?_)
  clear hK K hH
  have hH := hH'
  clear hH'
  try simp only [List.setIfInBounds_toArray, List.set]
  have R7 : Hid (Fr ((((((((x3_2.setCell ⟨q3, 0, none⟩ (.int .u64 (e0 x3))).setCell ⟨q3, 1, none⟩ (.int .u64 (e1 x3))).setCell ⟨q3, 2, none⟩ (.int .u64 (e2 x3))).setCell ⟨q3, 3, none⟩ (.int .u64 (e3 x3))).setCell ⟨q3, 4, none⟩ (.int .u64 (e0 z3))).setCell ⟨q3, 5, none⟩ (.int .u64 (e1 z3))).setCell ⟨q3, 6, none⟩ (.int .u64 (e2 z3))).setCell ⟨q3, 7, none⟩ (.int .u64 (e3 z3))) q3 x3 z3) := fr_set x3_2 q3 x3 z3 O7.out
  clear O7
  replace R6 : Hid (Fr ((((((((x3_2.setCell ⟨q3, 0, none⟩ (.int .u64 (e0 x3))).setCell ⟨q3, 1, none⟩ (.int .u64 (e1 x3))).setCell ⟨q3, 2, none⟩ (.int .u64 (e2 x3))).setCell ⟨q3, 3, none⟩ (.int .u64 (e3 x3))).setCell ⟨q3, 4, none⟩ (.int .u64 (e0 z3))).setCell ⟨q3, 5, none⟩ (.int .u64 (e1 z3))).setCell ⟨q3, 6, none⟩ (.int .u64 (e2 z3))).setCell ⟨q3, 7, none⟩ (.int .u64 (e3 z3))) q2 x2 z2) := fr_o8 R6.out (by omega) _ _ _ _ _ _ _ _
  clear nc0 nf0 nc1 nf1 nc2 nf2 nc3 nf3 nc4 nf4 nc5 nf5 nc6 nf6 nc7 nf7
  generalize (((((((x3_2.setCell ⟨q3, 0, none⟩ (.int .u64 (e0 x3))).setCell ⟨q3, 1, none⟩ (.int .u64 (e1 x3))).setCell ⟨q3, 2, none⟩ (.int .u64 (e2 x3))).setCell ⟨q3, 3, none⟩ (.int .u64 (e3 x3))).setCell ⟨q3, 4, none⟩ (.int .u64 (e0 z3))).setCell ⟨q3, 5, none⟩ (.int .u64 (e1 z3))).setCell ⟨q3, 6, none⟩ (.int .u64 (e2 z3))).setCell ⟨q3, 7, none⟩ (.int .u64 (e3 z3)) = x3_3 at *
  refine wpAnyH_done (by kernel_rfl) ?_ _
  refine NoPanic.normal ?_
  obtain ⟨p6_0, p6_1, p6_2, p6_3, p6_4, p6_5, p6_6, p6_7⟩ := R6.out
  obtain ⟨p7_0, p7_1, p7_2, p7_3, p7_4, p7_5, p7_6, p7_7⟩ := R7.out
  go_wp2
  exact bodyPost_ret (v := .tuple #[(.agg #[.int .u64 (e0 x2), .int .u64 (e1 x2), .int .u64 (e2 x2), .int .u64 (e3 x2), .int .u64 (e0 z2), .int .u64 (e1 z2), .int .u64 (e2 z2), .int .u64 (e3 z2)]), (.agg #[.int .u64 (e0 x3), .int .u64 (e1 x3), .int .u64 (e2 x3), .int .u64 (e3 x3), .int .u64 (e0 z3), .int .u64 (e1 z3), .int .u64 (e2 z3), .int .u64 (e3 z3)])]) (by simp [results, Tryd.results38, go_sem, p6_0, p6_1, p6_2, p6_3, p6_4, p6_5, p6_6, p6_7, p7_0, p7_1, p7_2, p7_3, p7_4, p7_5, p7_6, p7_7]) rfl ⟨rfl, (hH.below HB.out (fun b hb => by simp only [List.mem_cons, List.not_mem_nil, or_false] at hb; omega))⟩

set_option maxHeartbeats 4000000 in
theorem changed_odd (x2 z2 x3 z3 n : Int) (hx2 : El x2) (hz2 : El z2) (hx3 : El x3) (hz3 : El z3) (hn : Wd n) (hp : n % 2 = 1) (w : World) :
    Calls Tryd.prog 38 #[(.agg #[.int .u64 (e0 x2), .int .u64 (e1 x2), .int .u64 (e2 x2), .int .u64 (e3 x2), .int .u64 (e0 z2), .int .u64 (e1 z2), .int .u64 (e2 z2), .int .u64 (e3 z2)]), (.agg #[.int .u64 (e0 x3), .int .u64 (e1 x3), .int .u64 (e2 x3), .int .u64 (e3 x3), .int .u64 (e0 z3), .int .u64 (e1 z3), .int .u64 (e2 z3), .int .u64 (e3 z3)]), .int .u64 n] w fun e w' => e = .returned (.tuple #[(.agg #[.int .u64 (e0 x3), .int .u64 (e1 x3), .int .u64 (e2 x3), .int .u64 (e3 x3), .int .u64 (e0 z3), .int .u64 (e1 z3), .int .u64 (e2 z3), .int .u64 (e3 z3)]), (.agg #[.int .u64 (e0 x2), .int .u64 (e1 x2), .int .u64 (e2 x2), .int .u64 (e3 x2), .int .u64 (e0 z2), .int .u64 (e1 z2), .int .u64 (e2 z2), .int .u64 (e3 z2)])]) ∧ Below w.heap.size w w' := by
  go_enter Tryd.func38, Tryd.ntmps38
  go_upto_region 1 with fail
  have HB : Hid (Below w.heap.size w ((((w.alloc (.cells #[.int .u64 (e0 x2), .int .u64 (e1 x2), .int .u64 (e2 x2), .int .u64 (e3 x2), .int .u64 (e0 z2), .int .u64 (e1 z2), .int .u64 (e2 z2), .int .u64 (e3 z2)] 63)).alloc (.cells #[.int .u64 (e0 x3), .int .u64 (e1 x3), .int .u64 (e2 x3), .int .u64 (e3 x3), .int .u64 (e0 z3), .int .u64 (e1 z3), .int .u64 (e2 z3), .int .u64 (e3 z3)] 63)).alloc (.cells #[.int .u64 0, .int .u64 0, .int .u64 0, .int .u64 0, .int .u64 0, .int .u64 0, .int .u64 0, .int .u64 0] 63)).alloc (.cells #[.int .u64 0, .int .u64 0, .int .u64 0, .int .u64 0, .int .u64 0, .int .u64 0, .int .u64 0, .int .u64 0] 63))) := bel4 _ _ _ _ _
  have F3 : Hid (Fr ((((w.alloc (.cells #[.int .u64 (e0 x2), .int .u64 (e1 x2), .int .u64 (e2 x2), .int .u64 (e3 x2), .int .u64 (e0 z2), .int .u64 (e1 z2), .int .u64 (e2 z2), .int .u64 (e3 z2)] 63)).alloc (.cells #[.int .u64 (e0 x3), .int .u64 (e1 x3), .int .u64 (e2 x3), .int .u64 (e3 x3), .int .u64 (e0 z3), .int .u64 (e1 z3), .int .u64 (e2 z3), .int .u64 (e3 z3)] 63)).alloc (.cells #[.int .u64 0, .int .u64 0, .int .u64 0, .int .u64 0, .int .u64 0, .int .u64 0, .int .u64 0, .int .u64 0] 63)).alloc (.cells #[.int .u64 0, .int .u64 0, .int .u64 0, .int .u64 0, .int .u64 0, .int .u64 0, .int .u64 0, .int .u64 0] 63)) (w.heap.size) x2 z2) := ⟨by simp [go_sem], by simp [go_sem], by simp [go_sem], by simp [go_sem], by simp [go_sem], by simp [go_sem], by simp [go_sem], by simp [go_sem]⟩
  have F4 : Hid (Fr ((((w.alloc (.cells #[.int .u64 (e0 x2), .int .u64 (e1 x2), .int .u64 (e2 x2), .int .u64 (e3 x2), .int .u64 (e0 z2), .int .u64 (e1 z2), .int .u64 (e2 z2), .int .u64 (e3 z2)] 63)).alloc (.cells #[.int .u64 (e0 x3), .int .u64 (e1 x3), .int .u64 (e2 x3), .int .u64 (e3 x3), .int .u64 (e0 z3), .int .u64 (e1 z3), .int .u64 (e2 z3), .int .u64 (e3 z3)] 63)).alloc (.cells #[.int .u64 0, .int .u64 0, .int .u64 0, .int .u64 0, .int .u64 0, .int .u64 0, .int .u64 0, .int .u64 0] 63)).alloc (.cells #[.int .u64 0, .int .u64 0, .int .u64 0, .int .u64 0, .int .u64 0, .int .u64 0, .int .u64 0, .int .u64 0] 63)) (w.heap.size + 1) x3 z3) := ⟨by simp [go_sem], by simp [go_sem], by simp [go_sem], by simp [go_sem], by simp [go_sem], by simp [go_sem], by simp [go_sem], by simp [go_sem]⟩
  have O6 : Hid (Fo ((((w.alloc (.cells #[.int .u64 (e0 x2), .int .u64 (e1 x2), .int .u64 (e2 x2), .int .u64 (e3 x2), .int .u64 (e0 z2), .int .u64 (e1 z2), .int .u64 (e2 z2), .int .u64 (e3 z2)] 63)).alloc (.cells #[.int .u64 (e0 x3), .int .u64 (e1 x3), .int .u64 (e2 x3), .int .u64 (e3 x3), .int .u64 (e0 z3), .int .u64 (e1 z3), .int .u64 (e2 z3), .int .u64 (e3 z3)] 63)).alloc (.cells #[.int .u64 0, .int .u64 0, .int .u64 0, .int .u64 0, .int .u64 0, .int .u64 0, .int .u64 0, .int .u64 0] 63)).alloc (.cells #[.int .u64 0, .int .u64 0, .int .u64 0, .int .u64 0, .int .u64 0, .int .u64 0, .int .u64 0, .int .u64 0] 63)) (w.heap.size + 1 + 1)) := ⟨⟨_, by simp [go_sem]; rfl⟩, ⟨_, by simp [go_sem]; rfl⟩, ⟨_, by simp [go_sem]; rfl⟩, ⟨_, by simp [go_sem]; rfl⟩, ⟨_, by simp [go_sem]; rfl⟩, ⟨_, by simp [go_sem]; rfl⟩, ⟨_, by simp [go_sem]; rfl⟩, ⟨_, by simp [go_sem]; rfl⟩, by simp [go_sem], by simp [go_sem], by simp [go_sem], by simp [go_sem], by simp [go_sem], by simp [go_sem], by simp [go_sem], by simp [go_sem]⟩
  have O7 : Hid (Fo ((((w.alloc (.cells #[.int .u64 (e0 x2), .int .u64 (e1 x2), .int .u64 (e2 x2), .int .u64 (e3 x2), .int .u64 (e0 z2), .int .u64 (e1 z2), .int .u64 (e2 z2), .int .u64 (e3 z2)] 63)).alloc (.cells #[.int .u64 (e0 x3), .int .u64 (e1 x3), .int .u64 (e2 x3), .int .u64 (e3 x3), .int .u64 (e0 z3), .int .u64 (e1 z3), .int .u64 (e2 z3), .int .u64 (e3 z3)] 63)).alloc (.cells #[.int .u64 0, .int .u64 0, .int .u64 0, .int .u64 0, .int .u64 0, .int .u64 0, .int .u64 0, .int .u64 0] 63)).alloc (.cells #[.int .u64 0, .int .u64 0, .int .u64 0, .int .u64 0, .int .u64 0, .int .u64 0, .int .u64 0, .int .u64 0] 63)) (w.heap.size + 1 + 1 + 1)) := ⟨⟨_, by simp [go_sem]; rfl⟩, ⟨_, by simp [go_sem]; rfl⟩, ⟨_, by simp [go_sem]; rfl⟩, ⟨_, by simp [go_sem]; rfl⟩, ⟨_, by simp [go_sem]; rfl⟩, ⟨_, by simp [go_sem]; rfl⟩, ⟨_, by simp [go_sem]; rfl⟩, ⟨_, by simp [go_sem]; rfl⟩, by simp [go_sem], by simp [go_sem], by simp [go_sem], by simp [go_sem], by simp [go_sem], by simp [go_sem], by simp [go_sem], by simp [go_sem]⟩
  have O3 : Hid (Fo ((((w.alloc (.cells #[.int .u64 (e0 x2), .int .u64 (e1 x2), .int .u64 (e2 x2), .int .u64 (e3 x2), .int .u64 (e0 z2), .int .u64 (e1 z2), .int .u64 (e2 z2), .int .u64 (e3 z2)] 63)).alloc (.cells #[.int .u64 (e0 x3), .int .u64 (e1 x3), .int .u64 (e2 x3), .int .u64 (e3 x3), .int .u64 (e0 z3), .int .u64 (e1 z3), .int .u64 (e2 z3), .int .u64 (e3 z3)] 63)).alloc (.cells #[.int .u64 0, .int .u64 0, .int .u64 0, .int .u64 0, .int .u64 0, .int .u64 0, .int .u64 0, .int .u64 0] 63)).alloc (.cells #[.int .u64 0, .int .u64 0, .int .u64 0, .int .u64 0, .int .u64 0, .int .u64 0, .int .u64 0, .int .u64 0] 63)) (w.heap.size)) := ⟨⟨_, by simp [go_sem]; rfl⟩, ⟨_, by simp [go_sem]; rfl⟩, ⟨_, by simp [go_sem]; rfl⟩, ⟨_, by simp [go_sem]; rfl⟩, ⟨_, by simp [go_sem]; rfl⟩, ⟨_, by simp [go_sem]; rfl⟩, ⟨_, by simp [go_sem]; rfl⟩, ⟨_, by simp [go_sem]; rfl⟩, by simp [go_sem], by simp [go_sem], by simp [go_sem], by simp [go_sem], by simp [go_sem], by simp [go_sem], by simp [go_sem], by simp [go_sem]⟩
  have O4 : Hid (Fo ((((w.alloc (.cells #[.int .u64 (e0 x2), .int .u64 (e1 x2), .int .u64 (e2 x2), .int .u64 (e3 x2), .int .u64 (e0 z2), .int .u64 (e1 z2), .int .u64 (e2 z2), .int .u64 (e3 z2)] 63)).alloc (.cells #[.int .u64 (e0 x3), .int .u64 (e1 x3), .int .u64 (e2 x3), .int .u64 (e3 x3), .int .u64 (e0 z3), .int .u64 (e1 z3), .int .u64 (e2 z3), .int .u64 (e3 z3)] 63)).alloc (.cells #[.int .u64 0, .int .u64 0, .int .u64 0, .int .u64 0, .int .u64 0, .int .u64 0, .int .u64 0, .int .u64 0] 63)).alloc (.cells #[.int .u64 0, .int .u64 0, .int .u64 0, .int .u64 0, .int .u64 0, .int .u64 0, .int .u64 0, .int .u64 0] 63)) (w.heap.size + 1)) := ⟨⟨_, by simp [go_sem]; rfl⟩, ⟨_, by simp [go_sem]; rfl⟩, ⟨_, by simp [go_sem]; rfl⟩, ⟨_, by simp [go_sem]; rfl⟩, ⟨_, by simp [go_sem]; rfl⟩, ⟨_, by simp [go_sem]; rfl⟩, ⟨_, by simp [go_sem]; rfl⟩, ⟨_, by simp [go_sem]; rfl⟩, by simp [go_sem], by simp [go_sem], by simp [go_sem], by simp [go_sem], by simp [go_sem], by simp [go_sem], by simp [go_sem], by simp [go_sem]⟩
  generalize (((w.alloc (.cells #[.int .u64 (e0 x2), .int .u64 (e1 x2), .int .u64 (e2 x2), .int .u64 (e3 x2), .int .u64 (e0 z2), .int .u64 (e1 z2), .int .u64 (e2 z2), .int .u64 (e3 z2)] 63)).alloc (.cells #[.int .u64 (e0 x3), .int .u64 (e1 x3), .int .u64 (e2 x3), .int .u64 (e3 x3), .int .u64 (e0 z3), .int .u64 (e1 z3), .int .u64 (e2 z3), .int .u64 (e3 z3)] 63)).alloc (.cells #[.int .u64 0, .int .u64 0, .int .u64 0, .int .u64 0, .int .u64 0, .int .u64 0, .int .u64 0, .int .u64 0] 63)).alloc (.cells #[.int .u64 0, .int .u64 0, .int .u64 0, .int .u64 0, .int .u64 0, .int .u64 0, .int .u64 0, .int .u64 0] 63) = W0 at *
  have hq1 : w.heap.size < w.heap.size + 1 := by omega
  have hq2 : w.heap.size + 1 < w.heap.size + 1 + 1 := by omega
  have hq3 : w.heap.size + 1 + 1 < w.heap.size + 1 + 1 + 1 := by omega
  have hw3 : w.heap.size ≤ w.heap.size + 1 + 1 + 1 := by omega
  have hw2 : w.heap.size ≤ w.heap.size + 1 + 1 := by omega
  have hw1 : w.heap.size ≤ w.heap.size + 1 := by omega
  have hw0 : w.heap.size ≤ w.heap.size := Nat.le_refl _
  generalize w.heap.size + 1 + 1 + 1 = q3 at *
  generalize w.heap.size + 1 + 1 = q2 at *
  generalize w.heap.size + 1 = q1 at *
  obtain ⟨q0, hq0⟩ : ∃ q, q = w.heap.size := ⟨_, rfl⟩
  clear hq0 q0
  obtain ⟨a0, a1, a2, a3, a4, a5, a6, a7⟩ := F3.out
  obtain ⟨b0, b1, b2, b3, b4, b5, b6, b7⟩ := F4.out
  go_wp2_with fail
  clear a0 b0 a1 b1 a2 b2 a3 b3 a4 b4 a5 b5 a6 b6 a7 b7
  refine (swap_odd x2 x3 n hx2 hx3 hn hp _).mono ?_
  rintro e u1 ⟨rfl, hb⟩
  replace F3 : Hid (Fr u1 w.heap.size x2 z2) := F3.out.later hb
  replace F4 : Hid (Fr u1 q1 x3 z3) := F4.out.later hb
  replace O3 : Hid (Fo u1 w.heap.size) := O3.out.later hb
  replace O4 : Hid (Fo u1 q1) := O4.out.later hb
  replace O6 : Hid (Fo u1 q2) := O6.out.later hb
  replace O7 : Hid (Fo u1 q3) := O7.out.later hb
  replace HB : Hid (Below w.heap.size w u1) := HB.out.trans (Below.mono hb HB.out.size)
  clear hb
  obtain ⟨⟨_, a0⟩, ⟨_, a1⟩, ⟨_, a2⟩, ⟨_, a3⟩, ⟨_, a4⟩, ⟨_, a5⟩, ⟨_, a6⟩, ⟨_, a7⟩, af0, af1, af2, af3, af4, af5, af6, af7⟩ := O3.out
  obtain ⟨⟨_, b0⟩, ⟨_, b1⟩, ⟨_, b2⟩, ⟨_, b3⟩, ⟨_, b4⟩, ⟨_, b5⟩, ⟨_, b6⟩, ⟨_, b7⟩, bf0, bf1, bf2, bf3, bf4, bf5, bf6, bf7⟩ := O4.out
  go_upto_region 2 with fail
  clear a0 b0 af0 bf0 a1 b1 af1 bf1 a2 b2 af2 bf2 a3 b3 af3 bf3 a4 b4 af4 bf4 a5 b5 af5 bf5 a6 b6 af6 bf6 a7 b7 af7 bf7
  have F3n : Hid (Fr ((((((((u1.setCell ⟨w.heap.size, 0, none⟩ (.int .u64 (e0 x3))).setCell ⟨w.heap.size, 1, none⟩ (.int .u64 (e1 x3))).setCell ⟨w.heap.size, 2, none⟩ (.int .u64 (e2 x3))).setCell ⟨w.heap.size, 3, none⟩ (.int .u64 (e3 x3))).setCell ⟨q1, 0, none⟩ (.int .u64 (e0 x2))).setCell ⟨q1, 1, none⟩ (.int .u64 (e1 x2))).setCell ⟨q1, 2, none⟩ (.int .u64 (e2 x2))).setCell ⟨q1, 3, none⟩ (.int .u64 (e3 x2))) (w.heap.size) x3 z2) := fr_othx (fr_setx F3.out x3) (by omega) _ _ _ _
  have F4n : Hid (Fr ((((((((u1.setCell ⟨w.heap.size, 0, none⟩ (.int .u64 (e0 x3))).setCell ⟨w.heap.size, 1, none⟩ (.int .u64 (e1 x3))).setCell ⟨w.heap.size, 2, none⟩ (.int .u64 (e2 x3))).setCell ⟨w.heap.size, 3, none⟩ (.int .u64 (e3 x3))).setCell ⟨q1, 0, none⟩ (.int .u64 (e0 x2))).setCell ⟨q1, 1, none⟩ (.int .u64 (e1 x2))).setCell ⟨q1, 2, none⟩ (.int .u64 (e2 x2))).setCell ⟨q1, 3, none⟩ (.int .u64 (e3 x2))) q1 x2 z3) := fr_setx (fr_othx F4.out (by omega) _ _ _ _) x2
  have O3n : Hid (Fo ((((((((u1.setCell ⟨w.heap.size, 0, none⟩ (.int .u64 (e0 x3))).setCell ⟨w.heap.size, 1, none⟩ (.int .u64 (e1 x3))).setCell ⟨w.heap.size, 2, none⟩ (.int .u64 (e2 x3))).setCell ⟨w.heap.size, 3, none⟩ (.int .u64 (e3 x3))).setCell ⟨q1, 0, none⟩ (.int .u64 (e0 x2))).setCell ⟨q1, 1, none⟩ (.int .u64 (e1 x2))).setCell ⟨q1, 2, none⟩ (.int .u64 (e2 x2))).setCell ⟨q1, 3, none⟩ (.int .u64 (e3 x2))) (w.heap.size)) := fo_othx (fo_setx O3.out _ _ _ _) (by omega) _ _ _ _
  have O4n : Hid (Fo ((((((((u1.setCell ⟨w.heap.size, 0, none⟩ (.int .u64 (e0 x3))).setCell ⟨w.heap.size, 1, none⟩ (.int .u64 (e1 x3))).setCell ⟨w.heap.size, 2, none⟩ (.int .u64 (e2 x3))).setCell ⟨w.heap.size, 3, none⟩ (.int .u64 (e3 x3))).setCell ⟨q1, 0, none⟩ (.int .u64 (e0 x2))).setCell ⟨q1, 1, none⟩ (.int .u64 (e1 x2))).setCell ⟨q1, 2, none⟩ (.int .u64 (e2 x2))).setCell ⟨q1, 3, none⟩ (.int .u64 (e3 x2))) q1) := fo_setx (fo_othx O4.out (by omega) _ _ _ _) _ _ _ _
  have O6n : Hid (Fo ((((((((u1.setCell ⟨w.heap.size, 0, none⟩ (.int .u64 (e0 x3))).setCell ⟨w.heap.size, 1, none⟩ (.int .u64 (e1 x3))).setCell ⟨w.heap.size, 2, none⟩ (.int .u64 (e2 x3))).setCell ⟨w.heap.size, 3, none⟩ (.int .u64 (e3 x3))).setCell ⟨q1, 0, none⟩ (.int .u64 (e0 x2))).setCell ⟨q1, 1, none⟩ (.int .u64 (e1 x2))).setCell ⟨q1, 2, none⟩ (.int .u64 (e2 x2))).setCell ⟨q1, 3, none⟩ (.int .u64 (e3 x2))) q2) := fo_othx (fo_othx O6.out (by omega) _ _ _ _) (by omega) _ _ _ _
  have O7n : Hid (Fo ((((((((u1.setCell ⟨w.heap.size, 0, none⟩ (.int .u64 (e0 x3))).setCell ⟨w.heap.size, 1, none⟩ (.int .u64 (e1 x3))).setCell ⟨w.heap.size, 2, none⟩ (.int .u64 (e2 x3))).setCell ⟨w.heap.size, 3, none⟩ (.int .u64 (e3 x3))).setCell ⟨q1, 0, none⟩ (.int .u64 (e0 x2))).setCell ⟨q1, 1, none⟩ (.int .u64 (e1 x2))).setCell ⟨q1, 2, none⟩ (.int .u64 (e2 x2))).setCell ⟨q1, 3, none⟩ (.int .u64 (e3 x2))) q3) := fo_othx (fo_othx O7.out (by omega) _ _ _ _) (by omega) _ _ _ _
  have HBn : Hid (Below w.heap.size w ((((((((u1.setCell ⟨w.heap.size, 0, none⟩ (.int .u64 (e0 x3))).setCell ⟨w.heap.size, 1, none⟩ (.int .u64 (e1 x3))).setCell ⟨w.heap.size, 2, none⟩ (.int .u64 (e2 x3))).setCell ⟨w.heap.size, 3, none⟩ (.int .u64 (e3 x3))).setCell ⟨q1, 0, none⟩ (.int .u64 (e0 x2))).setCell ⟨q1, 1, none⟩ (.int .u64 (e1 x2))).setCell ⟨q1, 2, none⟩ (.int .u64 (e2 x2))).setCell ⟨q1, 3, none⟩ (.int .u64 (e3 x2)))) := below_setx (below_setx HB.out _ (by omega) _ _ _ _) _ (by omega) _ _ _ _
  clear F3 F4 O3 O4 O6 O7 HB
  generalize (((((((u1.setCell ⟨w.heap.size, 0, none⟩ (.int .u64 (e0 x3))).setCell ⟨w.heap.size, 1, none⟩ (.int .u64 (e1 x3))).setCell ⟨w.heap.size, 2, none⟩ (.int .u64 (e2 x3))).setCell ⟨w.heap.size, 3, none⟩ (.int .u64 (e3 x3))).setCell ⟨q1, 0, none⟩ (.int .u64 (e0 x2))).setCell ⟨q1, 1, none⟩ (.int .u64 (e1 x2))).setCell ⟨q1, 2, none⟩ (.int .u64 (e2 x2))).setCell ⟨q1, 3, none⟩ (.int .u64 (e3 x2)) = W1 at *
  have F3 := F3n
  clear F3n
  have F4 := F4n
  clear F4n
  have O3 := O3n
  clear O3n
  have O4 := O4n
  clear O4n
  have O6 := O6n
  clear O6n
  have O7 := O7n
  clear O7n
  have HB := HBn
  clear HBn
  obtain ⟨a0, a1, a2, a3, a4, a5, a6, a7⟩ := F3.out
  obtain ⟨b0, b1, b2, b3, b4, b5, b6, b7⟩ := F4.out
  go_wp2_with fail
  clear a0 b0 a1 b1 a2 b2 a3 b3 a4 b4 a5 b5 a6 b6 a7 b7
  refine (swap_odd z2 z3 n hz2 hz3 hn hp _).mono ?_
  rintro e u2 ⟨rfl, hb⟩
  replace F3 : Hid (Fr u2 (w.heap.size) x3 z2) := F3.out.later hb
  replace F4 : Hid (Fr u2 q1 x2 z3) := F4.out.later hb
  replace O3 : Hid (Fo u2 w.heap.size) := O3.out.later hb
  replace O4 : Hid (Fo u2 q1) := O4.out.later hb
  replace O6 : Hid (Fo u2 q2) := O6.out.later hb
  replace O7 : Hid (Fo u2 q3) := O7.out.later hb
  replace HB : Hid (Below w.heap.size w u2) := HB.out.trans (Below.mono hb HB.out.size)
  clear hb
  obtain ⟨⟨_, a0⟩, ⟨_, a1⟩, ⟨_, a2⟩, ⟨_, a3⟩, ⟨_, a4⟩, ⟨_, a5⟩, ⟨_, a6⟩, ⟨_, a7⟩, af0, af1, af2, af3, af4, af5, af6, af7⟩ := O3.out
  obtain ⟨⟨_, b0⟩, ⟨_, b1⟩, ⟨_, b2⟩, ⟨_, b3⟩, ⟨_, b4⟩, ⟨_, b5⟩, ⟨_, b6⟩, ⟨_, b7⟩, bf0, bf1, bf2, bf3, bf4, bf5, bf6, bf7⟩ := O4.out
  go_upto_region 3 with fail
  clear a0 b0 af0 bf0 a1 b1 af1 bf1 a2 b2 af2 bf2 a3 b3 af3 bf3 a4 b4 af4 bf4 a5 b5 af5 bf5 a6 b6 af6 bf6 a7 b7 af7 bf7
  have F3n : Hid (Fr ((((((((u2.setCell ⟨w.heap.size, 4, none⟩ (.int .u64 (e0 z3))).setCell ⟨w.heap.size, 5, none⟩ (.int .u64 (e1 z3))).setCell ⟨w.heap.size, 6, none⟩ (.int .u64 (e2 z3))).setCell ⟨w.heap.size, 7, none⟩ (.int .u64 (e3 z3))).setCell ⟨q1, 4, none⟩ (.int .u64 (e0 z2))).setCell ⟨q1, 5, none⟩ (.int .u64 (e1 z2))).setCell ⟨q1, 6, none⟩ (.int .u64 (e2 z2))).setCell ⟨q1, 7, none⟩ (.int .u64 (e3 z2))) (w.heap.size) x3 z3) := fr_othz (fr_setz F3.out z3) (by omega) _ _ _ _
  have F4n : Hid (Fr ((((((((u2.setCell ⟨w.heap.size, 4, none⟩ (.int .u64 (e0 z3))).setCell ⟨w.heap.size, 5, none⟩ (.int .u64 (e1 z3))).setCell ⟨w.heap.size, 6, none⟩ (.int .u64 (e2 z3))).setCell ⟨w.heap.size, 7, none⟩ (.int .u64 (e3 z3))).setCell ⟨q1, 4, none⟩ (.int .u64 (e0 z2))).setCell ⟨q1, 5, none⟩ (.int .u64 (e1 z2))).setCell ⟨q1, 6, none⟩ (.int .u64 (e2 z2))).setCell ⟨q1, 7, none⟩ (.int .u64 (e3 z2))) q1 x2 z2) := fr_setz (fr_othz F4.out (by omega) _ _ _ _) z2
  have O3n : Hid (Fo ((((((((u2.setCell ⟨w.heap.size, 4, none⟩ (.int .u64 (e0 z3))).setCell ⟨w.heap.size, 5, none⟩ (.int .u64 (e1 z3))).setCell ⟨w.heap.size, 6, none⟩ (.int .u64 (e2 z3))).setCell ⟨w.heap.size, 7, none⟩ (.int .u64 (e3 z3))).setCell ⟨q1, 4, none⟩ (.int .u64 (e0 z2))).setCell ⟨q1, 5, none⟩ (.int .u64 (e1 z2))).setCell ⟨q1, 6, none⟩ (.int .u64 (e2 z2))).setCell ⟨q1, 7, none⟩ (.int .u64 (e3 z2))) (w.heap.size)) := fo_othz (fo_setz O3.out _ _ _ _) (by omega) _ _ _ _
  have O4n : Hid (Fo ((((((((u2.setCell ⟨w.heap.size, 4, none⟩ (.int .u64 (e0 z3))).setCell ⟨w.heap.size, 5, none⟩ (.int .u64 (e1 z3))).setCell ⟨w.heap.size, 6, none⟩ (.int .u64 (e2 z3))).setCell ⟨w.heap.size, 7, none⟩ (.int .u64 (e3 z3))).setCell ⟨q1, 4, none⟩ (.int .u64 (e0 z2))).setCell ⟨q1, 5, none⟩ (.int .u64 (e1 z2))).setCell ⟨q1, 6, none⟩ (.int .u64 (e2 z2))).setCell ⟨q1, 7, none⟩ (.int .u64 (e3 z2))) q1) := fo_setz (fo_othz O4.out (by omega) _ _ _ _) _ _ _ _
  have O6n : Hid (Fo ((((((((u2.setCell ⟨w.heap.size, 4, none⟩ (.int .u64 (e0 z3))).setCell ⟨w.heap.size, 5, none⟩ (.int .u64 (e1 z3))).setCell ⟨w.heap.size, 6, none⟩ (.int .u64 (e2 z3))).setCell ⟨w.heap.size, 7, none⟩ (.int .u64 (e3 z3))).setCell ⟨q1, 4, none⟩ (.int .u64 (e0 z2))).setCell ⟨q1, 5, none⟩ (.int .u64 (e1 z2))).setCell ⟨q1, 6, none⟩ (.int .u64 (e2 z2))).setCell ⟨q1, 7, none⟩ (.int .u64 (e3 z2))) q2) := fo_othz (fo_othz O6.out (by omega) _ _ _ _) (by omega) _ _ _ _
  have O7n : Hid (Fo ((((((((u2.setCell ⟨w.heap.size, 4, none⟩ (.int .u64 (e0 z3))).setCell ⟨w.heap.size, 5, none⟩ (.int .u64 (e1 z3))).setCell ⟨w.heap.size, 6, none⟩ (.int .u64 (e2 z3))).setCell ⟨w.heap.size, 7, none⟩ (.int .u64 (e3 z3))).setCell ⟨q1, 4, none⟩ (.int .u64 (e0 z2))).setCell ⟨q1, 5, none⟩ (.int .u64 (e1 z2))).setCell ⟨q1, 6, none⟩ (.int .u64 (e2 z2))).setCell ⟨q1, 7, none⟩ (.int .u64 (e3 z2))) q3) := fo_othz (fo_othz O7.out (by omega) _ _ _ _) (by omega) _ _ _ _
  have HBn : Hid (Below w.heap.size w ((((((((u2.setCell ⟨w.heap.size, 4, none⟩ (.int .u64 (e0 z3))).setCell ⟨w.heap.size, 5, none⟩ (.int .u64 (e1 z3))).setCell ⟨w.heap.size, 6, none⟩ (.int .u64 (e2 z3))).setCell ⟨w.heap.size, 7, none⟩ (.int .u64 (e3 z3))).setCell ⟨q1, 4, none⟩ (.int .u64 (e0 z2))).setCell ⟨q1, 5, none⟩ (.int .u64 (e1 z2))).setCell ⟨q1, 6, none⟩ (.int .u64 (e2 z2))).setCell ⟨q1, 7, none⟩ (.int .u64 (e3 z2)))) := below_setz (below_setz HB.out _ (by omega) _ _ _ _) _ (by omega) _ _ _ _
  clear F3 F4 O3 O4 O6 O7 HB
  generalize (((((((u2.setCell ⟨w.heap.size, 4, none⟩ (.int .u64 (e0 z3))).setCell ⟨w.heap.size, 5, none⟩ (.int .u64 (e1 z3))).setCell ⟨w.heap.size, 6, none⟩ (.int .u64 (e2 z3))).setCell ⟨w.heap.size, 7, none⟩ (.int .u64 (e3 z3))).setCell ⟨q1, 4, none⟩ (.int .u64 (e0 z2))).setCell ⟨q1, 5, none⟩ (.int .u64 (e1 z2))).setCell ⟨q1, 6, none⟩ (.int .u64 (e2 z2))).setCell ⟨q1, 7, none⟩ (.int .u64 (e3 z2)) = W2 at *
  have F3 := F3n
  clear F3n
  have F4 := F4n
  clear F4n
  have O3 := O3n
  clear O3n
  have O4 := O4n
  clear O4n
  have O6 := O6n
  clear O6n
  have O7 := O7n
  clear O7n
  have HB := HBn
  clear HBn
  clear O3 O4
  obtain ⟨F3c0, F3c1, F3c2, F3c3, F3c4, F3c5, F3c6, F3c7⟩ := F3.out
  have F3u0 : ∀ u, ExtL [q2, q3] W2 u → u.cell? ⟨w.heap.size, 0, none⟩ = some (.int .u64 (e0 x3)) := fun u hu => hu.cell (by simp only [List.mem_cons, List.not_mem_nil, or_false]; omega) F3c0
  have F3u1 : ∀ u, ExtL [q2, q3] W2 u → u.cell? ⟨w.heap.size, 1, none⟩ = some (.int .u64 (e1 x3)) := fun u hu => hu.cell (by simp only [List.mem_cons, List.not_mem_nil, or_false]; omega) F3c1
  have F3u2 : ∀ u, ExtL [q2, q3] W2 u → u.cell? ⟨w.heap.size, 2, none⟩ = some (.int .u64 (e2 x3)) := fun u hu => hu.cell (by simp only [List.mem_cons, List.not_mem_nil, or_false]; omega) F3c2
  have F3u3 : ∀ u, ExtL [q2, q3] W2 u → u.cell? ⟨w.heap.size, 3, none⟩ = some (.int .u64 (e3 x3)) := fun u hu => hu.cell (by simp only [List.mem_cons, List.not_mem_nil, or_false]; omega) F3c3
  have F3u4 : ∀ u, ExtL [q2, q3] W2 u → u.cell? ⟨w.heap.size, 4, none⟩ = some (.int .u64 (e0 z3)) := fun u hu => hu.cell (by simp only [List.mem_cons, List.not_mem_nil, or_false]; omega) F3c4
  have F3u5 : ∀ u, ExtL [q2, q3] W2 u → u.cell? ⟨w.heap.size, 5, none⟩ = some (.int .u64 (e1 z3)) := fun u hu => hu.cell (by simp only [List.mem_cons, List.not_mem_nil, or_false]; omega) F3c5
  have F3u6 : ∀ u, ExtL [q2, q3] W2 u → u.cell? ⟨w.heap.size, 6, none⟩ = some (.int .u64 (e2 z3)) := fun u hu => hu.cell (by simp only [List.mem_cons, List.not_mem_nil, or_false]; omega) F3c6
  have F3u7 : ∀ u, ExtL [q2, q3] W2 u → u.cell? ⟨w.heap.size, 7, none⟩ = some (.int .u64 (e3 z3)) := fun u hu => hu.cell (by simp only [List.mem_cons, List.not_mem_nil, or_false]; omega) F3c7
  clear F3c0 F3c1 F3c2 F3c3 F3c4 F3c5 F3c6 F3c7
  obtain ⟨F4c0, F4c1, F4c2, F4c3, F4c4, F4c5, F4c6, F4c7⟩ := F4.out
  have F4u0 : ∀ u, ExtL [q2, q3] W2 u → u.cell? ⟨q1, 0, none⟩ = some (.int .u64 (e0 x2)) := fun u hu => hu.cell (by simp only [List.mem_cons, List.not_mem_nil, or_false]; omega) F4c0
  have F4u1 : ∀ u, ExtL [q2, q3] W2 u → u.cell? ⟨q1, 1, none⟩ = some (.int .u64 (e1 x2)) := fun u hu => hu.cell (by simp only [List.mem_cons, List.not_mem_nil, or_false]; omega) F4c1
  have F4u2 : ∀ u, ExtL [q2, q3] W2 u → u.cell? ⟨q1, 2, none⟩ = some (.int .u64 (e2 x2)) := fun u hu => hu.cell (by simp only [List.mem_cons, List.not_mem_nil, or_false]; omega) F4c2
  have F4u3 : ∀ u, ExtL [q2, q3] W2 u → u.cell? ⟨q1, 3, none⟩ = some (.int .u64 (e3 x2)) := fun u hu => hu.cell (by simp only [List.mem_cons, List.not_mem_nil, or_false]; omega) F4c3
  have F4u4 : ∀ u, ExtL [q2, q3] W2 u → u.cell? ⟨q1, 4, none⟩ = some (.int .u64 (e0 z2)) := fun u hu => hu.cell (by simp only [List.mem_cons, List.not_mem_nil, or_false]; omega) F4c4
  have F4u5 : ∀ u, ExtL [q2, q3] W2 u → u.cell? ⟨q1, 5, none⟩ = some (.int .u64 (e1 z2)) := fun u hu => hu.cell (by simp only [List.mem_cons, List.not_mem_nil, or_false]; omega) F4c5
  have F4u6 : ∀ u, ExtL [q2, q3] W2 u → u.cell? ⟨q1, 6, none⟩ = some (.int .u64 (e2 z2)) := fun u hu => hu.cell (by simp only [List.mem_cons, List.not_mem_nil, or_false]; omega) F4c6
  have F4u7 : ∀ u, ExtL [q2, q3] W2 u → u.cell? ⟨q1, 7, none⟩ = some (.int .u64 (e3 z2)) := fun u hu => hu.cell (by simp only [List.mem_cons, List.not_mem_nil, or_false]; omega) F4c7
  clear F4c0 F4c1 F4c2 F4c3 F4c4 F4c5 F4c6 F4c7
  refine wp_region_noPanic ?_
  refine wp_region_held_drew (S := ExtL [q2, q3] W2) (by kernel_rfl) (ExtL.refl _ _).drew (fun hH => ?_)
  change wpAnyH _ _ _ _ _ _ #[false, false, false, false] _ _
  replace O6 : Hid (Fo W2.drew q2) := O6.out.later (Below.refl _ _).drew
  replace O7 : Hid (Fo W2.drew q3) := O7.out.later (Below.refl _ _).drew
  generalize W2.drew = y0 at *
  refine wpAnyH_take (i := 0) (oi := ?o0r3) (v := ?v0r3) ?h0r3 (by kernel_rfl) ?f0r3 ?r0r3 (fun _ _ _ h => h) (Or.inl ⟨?w0r3, ?y0r3⟩) (by assumption) ?t0r3
  case h0r3 => simp only [List.getElem?_toArray]; rfl
  case f0r3 => kernel_rfl
  case r0r3 => kernel_rfl
  case w0r3 => rfl
  case y0r3 => (intro u hu; (go_simp) <;> with_reducible rfl)
  try simp only [Act.put, List.setIfInBounds_toArray, List.set_cons_zero, List.set_cons_succ]
  refine wpAnyH_take (i := 1) (oi := ?o1r3) (v := ?v1r3) ?h1r3 (by kernel_rfl) ?f1r3 ?r1r3 (fun _ _ _ h => h) (Or.inl ⟨?w1r3, ?y1r3⟩) (by assumption) ?t1r3
  case h1r3 => simp only [List.getElem?_toArray]; rfl
  case f1r3 => kernel_rfl
  case r1r3 => kernel_rfl
  case w1r3 => rfl
  case y1r3 => (intro u hu; (go_simp) <;> with_reducible rfl)
  try simp only [Act.put, List.setIfInBounds_toArray, List.set_cons_zero, List.set_cons_succ]
  obtain ⟨⟨_, nc0⟩, ⟨_, nc1⟩, ⟨_, nc2⟩, ⟨_, nc3⟩, ⟨_, nc4⟩, ⟨_, nc5⟩, ⟨_, nc6⟩, ⟨_, nc7⟩, nf0, nf1, nf2, nf3, nf4, nf5, nf6, nf7⟩ := O6.out
  refine wpAnyH_ready (rs := [2]) (by kernel_rfl) (by simp) ?_
  refine AllReadyH.cons (o := ?o2r3) ?h2r3 (fun K hK => ?_) AllReadyH.nil
  case h2r3 => simp only [List.getElem?_toArray]; rfl
  go_simp
  refine hK.out _ _ (hH.set8 (by simp) _ _ _ _ _ _ _ _) (fun hH' => ?_)
  clear hK K hH
  have hH := hH'
  clear hH'
  try simp only [List.setIfInBounds_toArray, List.set]
  have R6 : Hid (Fr ((((((((y0.setCell ⟨q2, 0, none⟩ (.int .u64 (e0 x3))).setCell ⟨q2, 1, none⟩ (.int .u64 (e1 x3))).setCell ⟨q2, 2, none⟩ (.int .u64 (e2 x3))).setCell ⟨q2, 3, none⟩ (.int .u64 (e3 x3))).setCell ⟨q2, 4, none⟩ (.int .u64 (e0 z3))).setCell ⟨q2, 5, none⟩ (.int .u64 (e1 z3))).setCell ⟨q2, 6, none⟩ (.int .u64 (e2 z3))).setCell ⟨q2, 7, none⟩ (.int .u64 (e3 z3))) q2 x3 z3) := fr_set y0 q2 x3 z3 O6.out
  clear O6
  replace O7 : Hid (Fo ((((((((y0.setCell ⟨q2, 0, none⟩ (.int .u64 (e0 x3))).setCell ⟨q2, 1, none⟩ (.int .u64 (e1 x3))).setCell ⟨q2, 2, none⟩ (.int .u64 (e2 x3))).setCell ⟨q2, 3, none⟩ (.int .u64 (e3 x3))).setCell ⟨q2, 4, none⟩ (.int .u64 (e0 z3))).setCell ⟨q2, 5, none⟩ (.int .u64 (e1 z3))).setCell ⟨q2, 6, none⟩ (.int .u64 (e2 z3))).setCell ⟨q2, 7, none⟩ (.int .u64 (e3 z3))) q3) := fo_o8 O7.out (by omega) _ _ _ _ _ _ _ _
  clear nc0 nf0 nc1 nf1 nc2 nf2 nc3 nf3 nc4 nf4 nc5 nf5 nc6 nf6 nc7 nf7
  generalize (((((((y0.setCell ⟨q2, 0, none⟩ (.int .u64 (e0 x3))).setCell ⟨q2, 1, none⟩ (.int .u64 (e1 x3))).setCell ⟨q2, 2, none⟩ (.int .u64 (e2 x3))).setCell ⟨q2, 3, none⟩ (.int .u64 (e3 x3))).setCell ⟨q2, 4, none⟩ (.int .u64 (e0 z3))).setCell ⟨q2, 5, none⟩ (.int .u64 (e1 z3))).setCell ⟨q2, 6, none⟩ (.int .u64 (e2 z3))).setCell ⟨q2, 7, none⟩ (.int .u64 (e3 z3)) = x3_2 at *
  obtain ⟨⟨_, nc0⟩, ⟨_, nc1⟩, ⟨_, nc2⟩, ⟨_, nc3⟩, ⟨_, nc4⟩, ⟨_, nc5⟩, ⟨_, nc6⟩, ⟨_, nc7⟩, nf0, nf1, nf2, nf3, nf4, nf5, nf6, nf7⟩ := O7.out
  refine wpAnyH_ready (rs := [3]) (by kernel_rfl) (by simp) ?_
  refine AllReadyH.cons (o := ?o3r3) ?h3r3 (fun K hK => ?_) AllReadyH.nil
  case h3r3 => simp only [List.getElem?_toArray]; rfl
  go_simp
  refine hK.out _ _ (hH.set8 (by simp) _ _ _ _ _ _ _ _) (fun hH' => ?_)
  clear hK K hH
  have hH := hH'
  clear hH'
  try simp only [List.setIfInBounds_toArray, List.set]
  have R7 : Hid (Fr ((((((((x3_2.setCell ⟨q3, 0, none⟩ (.int .u64 (e0 x2))).setCell ⟨q3, 1, none⟩ (.int .u64 (e1 x2))).setCell ⟨q3, 2, none⟩ (.int .u64 (e2 x2))).setCell ⟨q3, 3, none⟩ (.int .u64 (e3 x2))).setCell ⟨q3, 4, none⟩ (.int .u64 (e0 z2))).setCell ⟨q3, 5, none⟩ (.int .u64 (e1 z2))).setCell ⟨q3, 6, none⟩ (.int .u64 (e2 z2))).setCell ⟨q3, 7, none⟩ (.int .u64 (e3 z2))) q3 x2 z2) := fr_set x3_2 q3 x2 z2 O7.out
  clear O7
  replace R6 : Hid (Fr ((((((((x3_2.setCell ⟨q3, 0, none⟩ (.int .u64 (e0 x2))).setCell ⟨q3, 1, none⟩ (.int .u64 (e1 x2))).setCell ⟨q3, 2, none⟩ (.int .u64 (e2 x2))).setCell ⟨q3, 3, none⟩ (.int .u64 (e3 x2))).setCell ⟨q3, 4, none⟩ (.int .u64 (e0 z2))).setCell ⟨q3, 5, none⟩ (.int .u64 (e1 z2))).setCell ⟨q3, 6, none⟩ (.int .u64 (e2 z2))).setCell ⟨q3, 7, none⟩ (.int .u64 (e3 z2))) q2 x3 z3) := fr_o8 R6.out (by omega) _ _ _ _ _ _ _ _
  clear nc0 nf0 nc1 nf1 nc2 nf2 nc3 nf3 nc4 nf4 nc5 nf5 nc6 nf6 nc7 nf7
  generalize (((((((x3_2.setCell ⟨q3, 0, none⟩ (.int .u64 (e0 x2))).setCell ⟨q3, 1, none⟩ (.int .u64 (e1 x2))).setCell ⟨q3, 2, none⟩ (.int .u64 (e2 x2))).setCell ⟨q3, 3, none⟩ (.int .u64 (e3 x2))).setCell ⟨q3, 4, none⟩ (.int .u64 (e0 z2))).setCell ⟨q3, 5, none⟩ (.int .u64 (e1 z2))).setCell ⟨q3, 6, none⟩ (.int .u64 (e2 z2))).setCell ⟨q3, 7, none⟩ (.int .u64 (e3 z2)) = x3_3 at *
  refine wpAnyH_done (by kernel_rfl) ?_ _
  refine NoPanic.normal ?_
  obtain ⟨p6_0, p6_1, p6_2, p6_3, p6_4, p6_5, p6_6, p6_7⟩ := R6.out
  obtain ⟨p7_0, p7_1, p7_2, p7_3, p7_4, p7_5, p7_6, p7_7⟩ := R7.out
  go_wp2
  exact bodyPost_ret (v := .tuple #[(.agg #[.int .u64 (e0 x3), .int .u64 (e1 x3), .int .u64 (e2 x3), .int .u64 (e3 x3), .int .u64 (e0 z3), .int .u64 (e1 z3), .int .u64 (e2 z3), .int .u64 (e3 z3)]), (.agg #[.int .u64 (e0 x2), .int .u64 (e1 x2), .int .u64 (e2 x2), .int .u64 (e3 x2), .int .u64 (e0 z2), .int .u64 (e1 z2), .int .u64 (e2 z2), .int .u64 (e3 z2)])]) (by simp [results, Tryd.results38, go_sem, p6_0, p6_1, p6_2, p6_3, p6_4, p6_5, p6_6, p6_7, p7_0, p7_1, p7_2, p7_3, p7_4, p7_5, p7_6, p7_7]) rfl ⟨rfl, (hH.below HB.out (fun b hb => by simp only [List.mem_cons, List.not_mem_nil, or_false] at hb; omega))⟩
end Go.Proofs.YtggjifpcoidipaaDoor
