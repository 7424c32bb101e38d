/-
  What field's Swap does, for whatever numbers below p and whatever bit. No statement of the seat is proved here.
-/
import Derived.Test.YtggjifpcoidipaaDoorFLawM
namespace Go.Proofs.YtggjifpcoidipaaDoor
open Go.RowKit

structure Lm (u : World) (b : Nat) (t0 t1 t2 t3 : Int) : Prop where
  c0 : u.cell? ⟨b, 0, none⟩ = some (.int .u64 t0)
  c1 : u.cell? ⟨b, 1, none⟩ = some (.int .u64 t1)
  c2 : u.cell? ⟨b, 2, none⟩ = some (.int .u64 t2)
  c3 : u.cell? ⟨b, 3, none⟩ = some (.int .u64 t3)
theorem Lm.later {u u' : World} {b : Nat} {t0 t1 t2 t3 : Int} (h : Lm u b t0 t1 t2 t3) (hb : Below u.heap.size u u') : Lm u' b t0 t1 t2 t3 := ⟨cell_later hb h.c0, cell_later hb h.c1, cell_later hb h.c2, cell_later hb h.c3⟩
theorem Lm.other {u : World} {b c : Nat} {t0 t1 t2 t3 : Int} (h : Lm u b t0 t1 t2 t3) (hne : b ≠ c) (v0 v1 v2 v3 : Value) : Lm ((((u.setCell ⟨c, 0, none⟩ v0).setCell ⟨c, 1, none⟩ v1).setCell ⟨c, 2, none⟩ v2).setCell ⟨c, 3, none⟩ v3) b t0 t1 t2 t3 := by
  obtain ⟨h0, h1, h2, h3⟩ := h
  have hb : c ≠ b := fun e => hne e.symm
  refine ⟨?_, ?_, ?_, ?_⟩
  · simp [go_sem, h0]
  · simp [go_sem, h1]
  · simp [go_sem, h2]
  · simp [go_sem, h3]
/-- What holds all along the last statement. -/
structure SwS (w : World) (b0 b1 b4 : Nat) (x y t0 t1 t2 t3 : Int) (u : World) : Prop where
  bel : Below w.heap.size w u
  vx : Var u b0 x
  vy : Var u b1 y
  lm : Lm u b4 t0 t1 t2 t3
theorem SwS.later {w : World} {b0 b1 b4 : Nat} {x y t0 t1 t2 t3 : Int} {u u' : World} (h : SwS w b0 b1 b4 x y t0 t1 t2 t3 u) (hb : Below u.heap.size u u') : SwS w b0 b1 b4 x y t0 t1 t2 t3 u' :=
  ⟨h.bel.trans (hb.mono h.bel.size), h.vx.later hb, h.vy.later hb, h.lm.later hb⟩
theorem SwS.set4 {w : World} {b0 b1 b4 : Nat} {x y t0 t1 t2 t3 : Int} {u : World} (h : SwS w b0 b1 b4 x y t0 t1 t2 t3 u) (n : Nat) (hn : w.heap.size ≤ n) (h0 : b0 ≠ n) (h1 : b1 ≠ n) (h4 : b4 ≠ n) (v0 v1 v2 v3 : Value) :
    SwS w b0 b1 b4 x y t0 t1 t2 t3 ((((u.setCell ⟨n, 0, none⟩ v0).setCell ⟨n, 1, none⟩ v1).setCell ⟨n, 2, none⟩ v2).setCell ⟨n, 3, none⟩ v3) :=
  ⟨below_set4 h.bel n hn _ _ _ _, var_other h.vx h0 _ _ _ _, var_other h.vy h1 _ _ _ _, h.lm.other h4 _ _ _ _⟩

set_option maxHeartbeats 4000000 in
theorem swap_g (x y n c q t0 t1 t2 t3 x' y' : Int) (hc : bits .and .u64 n 1 = c) (hq : IntKind.u64.wrap (-c) = q)
    (a0 : bits .and .u64 q (bits .xor .u64 (e0 x) (e0 y)) = t0) (a1 : bits .and .u64 q (bits .xor .u64 (e1 x) (e1 y)) = t1) (a2 : bits .and .u64 q (bits .xor .u64 (e2 x) (e2 y)) = t2) (a3 : bits .and .u64 q (bits .xor .u64 (e3 x) (e3 y)) = t3)
    (HX : Hid (xo (e0 x) t0 = e0 x' ∧ xo (e1 x) t1 = e1 x' ∧ xo (e2 x) t2 = e2 x' ∧ xo (e3 x) t3 = e3 x')) (HY : Hid (xo (e0 y) t0 = e0 y' ∧ xo (e1 y) t1 = e1 y' ∧ xo (e2 y) t2 = e2 y' ∧ xo (e3 y) t3 = e3 y')) (w : World) :
    Calls Tryd.prog 48 #[(.agg #[.int .u64 (e0 x), .int .u64 (e1 x), .int .u64 (e2 x), .int .u64 (e3 x)]), (.agg #[.int .u64 (e0 y), .int .u64 (e1 y), .int .u64 (e2 y), .int .u64 (e3 y)]), .int .u64 n] w fun e w' => e = .returned (.tuple #[(.agg #[.int .u64 (e0 x'), .int .u64 (e1 x'), .int .u64 (e2 x'), .int .u64 (e3 x')]), (.agg #[.int .u64 (e0 y'), .int .u64 (e1 y'), .int .u64 (e2 y'), .int .u64 (e3 y')])]) ∧ Below w.heap.size w w' := by
  go_enter Tryd.func48, Tryd.ntmps48
  go_upto_region 3 with fail
  have HS : SwS w (w.heap.size) (w.heap.size + 1) (w.heap.size + 1 + 1 + 1 + 1) x y t0 t1 t2 t3 (((((w.alloc (.cells #[.int .u64 (e0 x), .int .u64 (e1 x), .int .u64 (e2 x), .int .u64 (e3 x)] 28)).alloc (.cells #[.int .u64 (e0 y), .int .u64 (e1 y), .int .u64 (e2 y), .int .u64 (e3 y)] 28)).alloc (.cells #[.int .u64 0, .int .u64 0, .int .u64 0, .int .u64 0] 28)).alloc (.cells #[.int .u64 0, .int .u64 0, .int .u64 0, .int .u64 0] 28)).alloc (.cells #[.int .u64 t0, .int .u64 t1, .int .u64 t2, .int .u64 t3] 26)) := by
    refine ⟨bel5 _ _ _ _ _ _, ?_, ?_, ?_⟩
    · exact ⟨by simp [go_sem], by simp [go_sem], by simp [go_sem], by simp [go_sem]⟩
    · exact ⟨by simp [go_sem], by simp [go_sem], by simp [go_sem], by simp [go_sem]⟩
    · exact ⟨by simp [go_sem], by simp [go_sem], by simp [go_sem], by simp [go_sem]⟩
  have O2 : Hid (Own (((((w.alloc (.cells #[.int .u64 (e0 x), .int .u64 (e1 x), .int .u64 (e2 x), .int .u64 (e3 x)] 28)).alloc (.cells #[.int .u64 (e0 y), .int .u64 (e1 y), .int .u64 (e2 y), .int .u64 (e3 y)] 28)).alloc (.cells #[.int .u64 0, .int .u64 0, .int .u64 0, .int .u64 0] 28)).alloc (.cells #[.int .u64 0, .int .u64 0, .int .u64 0, .int .u64 0] 28)).alloc (.cells #[.int .u64 t0, .int .u64 t1, .int .u64 t2, .int .u64 t3] 26)) (w.heap.size + 1 + 1)) := ⟨⟨.int .u64 0, by simp [go_sem]⟩, ⟨.int .u64 0, by simp [go_sem]⟩, ⟨.int .u64 0, by simp [go_sem]⟩, ⟨.int .u64 0, by simp [go_sem]⟩, by simp [go_sem], by simp [go_sem], by simp [go_sem], by simp [go_sem]⟩
  have O3 : Hid (Own (((((w.alloc (.cells #[.int .u64 (e0 x), .int .u64 (e1 x), .int .u64 (e2 x), .int .u64 (e3 x)] 28)).alloc (.cells #[.int .u64 (e0 y), .int .u64 (e1 y), .int .u64 (e2 y), .int .u64 (e3 y)] 28)).alloc (.cells #[.int .u64 0, .int .u64 0, .int .u64 0, .int .u64 0] 28)).alloc (.cells #[.int .u64 0, .int .u64 0, .int .u64 0, .int .u64 0] 28)).alloc (.cells #[.int .u64 t0, .int .u64 t1, .int .u64 t2, .int .u64 t3] 26)) (w.heap.size + 1 + 1 + 1)) := ⟨⟨.int .u64 0, by simp [go_sem]⟩, ⟨.int .u64 0, by simp [go_sem]⟩, ⟨.int .u64 0, by simp [go_sem]⟩, ⟨.int .u64 0, by simp [go_sem]⟩, by simp [go_sem], by simp [go_sem], by simp [go_sem], by simp [go_sem]⟩
  generalize ((((w.alloc (.cells #[.int .u64 (e0 x), .int .u64 (e1 x), .int .u64 (e2 x), .int .u64 (e3 x)] 28)).alloc (.cells #[.int .u64 (e0 y), .int .u64 (e1 y), .int .u64 (e2 y), .int .u64 (e3 y)] 28)).alloc (.cells #[.int .u64 0, .int .u64 0, .int .u64 0, .int .u64 0] 28)).alloc (.cells #[.int .u64 0, .int .u64 0, .int .u64 0, .int .u64 0] 28)).alloc (.cells #[.int .u64 t0, .int .u64 t1, .int .u64 t2, .int .u64 t3] 26) = W0 at *
  have k1 : w.heap.size < w.heap.size + 1 := by omega
  have k2 : w.heap.size + 1 < w.heap.size + 1 + 1 := by omega
  have k3 : w.heap.size + 1 + 1 < w.heap.size + 1 + 1 + 1 := by omega
  have k4 : w.heap.size + 1 + 1 + 1 < w.heap.size + 1 + 1 + 1 + 1 := by omega
  generalize w.heap.size + 1 + 1 + 1 + 1 = b4 at *
  generalize w.heap.size + 1 + 1 + 1 = b3 at *
  generalize w.heap.size + 1 + 1 = b2 at *
  generalize w.heap.size + 1 = b1 at *
  clear hc hq a0 a1 a2 a3
  have x0 : ∀ u, SwS w (w.heap.size) b1 b4 x y t0 t1 t2 t3 u → u.cell? ⟨w.heap.size, 0, none⟩ = some (.int .u64 (e0 x)) := fun u hu => hu.vx.c0
  have y0 : ∀ u, SwS w (w.heap.size) b1 b4 x y t0 t1 t2 t3 u → u.cell? ⟨b1, 0, none⟩ = some (.int .u64 (e0 y)) := fun u hu => hu.vy.c0
  have m0 : ∀ u, SwS w (w.heap.size) b1 b4 x y t0 t1 t2 t3 u → u.cell? ⟨b4, 0, none⟩ = some (.int .u64 t0) := fun u hu => hu.lm.c0
  have x1 : ∀ u, SwS w (w.heap.size) b1 b4 x y t0 t1 t2 t3 u → u.cell? ⟨w.heap.size, 1, none⟩ = some (.int .u64 (e1 x)) := fun u hu => hu.vx.c1
  have y1 : ∀ u, SwS w (w.heap.size) b1 b4 x y t0 t1 t2 t3 u → u.cell? ⟨b1, 1, none⟩ = some (.int .u64 (e1 y)) := fun u hu => hu.vy.c1
  have m1 : ∀ u, SwS w (w.heap.size) b1 b4 x y t0 t1 t2 t3 u → u.cell? ⟨b4, 1, none⟩ = some (.int .u64 t1) := fun u hu => hu.lm.c1
  have x2 : ∀ u, SwS w (w.heap.size) b1 b4 x y t0 t1 t2 t3 u → u.cell? ⟨w.heap.size, 2, none⟩ = some (.int .u64 (e2 x)) := fun u hu => hu.vx.c2
  have y2 : ∀ u, SwS w (w.heap.size) b1 b4 x y t0 t1 t2 t3 u → u.cell? ⟨b1, 2, none⟩ = some (.int .u64 (e2 y)) := fun u hu => hu.vy.c2
  have m2 : ∀ u, SwS w (w.heap.size) b1 b4 x y t0 t1 t2 t3 u → u.cell? ⟨b4, 2, none⟩ = some (.int .u64 t2) := fun u hu => hu.lm.c2
  have x3 : ∀ u, SwS w (w.heap.size) b1 b4 x y t0 t1 t2 t3 u → u.cell? ⟨w.heap.size, 3, none⟩ = some (.int .u64 (e3 x)) := fun u hu => hu.vx.c3
  have y3 : ∀ u, SwS w (w.heap.size) b1 b4 x y t0 t1 t2 t3 u → u.cell? ⟨b1, 3, none⟩ = some (.int .u64 (e3 y)) := fun u hu => hu.vy.c3
  have m3 : ∀ u, SwS w (w.heap.size) b1 b4 x y t0 t1 t2 t3 u → u.cell? ⟨b4, 3, none⟩ = some (.int .u64 t3) := fun u hu => hu.lm.c3
  refine wp_region_noPanic ?_
  refine wp_region_held_drew (S := SwS w (w.heap.size) b1 b4 x y t0 t1 t2 t3) (by kernel_rfl) (HS.later (Below.refl _ _).drew) (fun hH => ?_)
  change wpAnyH _ _ _ _ _ _ #[false, false, false, false, false, false, false, false, false, false, false, false] _ _
  refine wpAnyH_take (i := 0) (oi := ?o0) (v := ?v0) ?h0 (by kernel_rfl) ?f0 ?r0 (fun _ _ _ h => h) (Or.inl ⟨?w0, ?y0⟩) (by assumption) ?t0
  case h0 => simp only [List.getElem?_toArray]; rfl
  case f0 => kernel_rfl
  case r0 => kernel_rfl
  case w0 => rfl
  case y0 => (intro u hu; (go_simp) <;> with_reducible rfl)
  try simp only [Act.put, List.setIfInBounds_toArray, List.set_cons_zero, List.set_cons_succ]
  refine wpAnyH_take (i := 1) (oi := ?o1) (v := ?v1) ?h1 (by kernel_rfl) ?f1 ?r1 (fun _ _ _ h => h) (Or.inl ⟨?w1, ?y1⟩) (by assumption) ?t1
  case h1 => simp only [List.getElem?_toArray]; rfl
  case f1 => kernel_rfl
  case r1 => kernel_rfl
  case w1 => rfl
  case y1 => (intro u hu; (go_simp) <;> with_reducible rfl)
  try simp only [Act.put, List.setIfInBounds_toArray, List.set_cons_zero, List.set_cons_succ]
  refine wpAnyH_take (i := 2) (oi := ?o2) (v := ?v2) ?h2 (by kernel_rfl) ?f2 ?r2 (fun _ _ _ h => h) (Or.inl ⟨?w2, ?y2⟩) (by assumption) ?t2
  case h2 => simp only [List.getElem?_toArray]; rfl
  case f2 => kernel_rfl
  case r2 => kernel_rfl
  case w2 => rfl
  case y2 => (intro u hu; (go_simp) <;> with_reducible rfl)
  try simp only [Act.put, List.setIfInBounds_toArray, List.set_cons_zero, List.set_cons_succ]
  refine wpAnyH_take (i := 5) (oi := ?o5) (v := ?v5) ?h5 (by kernel_rfl) ?f5 ?r5 (fun _ _ _ h => h) (Or.inl ⟨?w5, ?y5⟩) (by assumption) ?t5
  case h5 => simp only [List.getElem?_toArray]; rfl
  case f5 => kernel_rfl
  case r5 => kernel_rfl
  case w5 => rfl
  case y5 => (intro u hu; (go_simp) <;> with_reducible rfl)
  try simp only [Act.put, List.setIfInBounds_toArray, List.set_cons_zero, List.set_cons_succ]
  refine wpAnyH_take (i := 6) (oi := ?o6) (v := ?v6) ?h6 (by kernel_rfl) ?f6 ?r6 (fun _ _ _ h => h) (Or.inl ⟨?w6, ?y6⟩) (by assumption) ?t6
  case h6 => simp only [List.getElem?_toArray]; rfl
  case f6 => kernel_rfl
  case r6 => kernel_rfl
  case w6 => rfl
  case y6 => (intro u hu; (go_simp) <;> with_reducible rfl)
  try simp only [Act.put, List.setIfInBounds_toArray, List.set_cons_zero, List.set_cons_succ]
  refine wpAnyH_take (i := 7) (oi := ?o7) (v := ?v7) ?h7 (by kernel_rfl) ?f7 ?r7 (fun _ _ _ h => h) (Or.inl ⟨?w7, ?y7⟩) (by assumption) ?t7
  case h7 => simp only [List.getElem?_toArray]; rfl
  case f7 => kernel_rfl
  case r7 => kernel_rfl
  case w7 => rfl
  case y7 => (intro u hu; (go_simp) <;> with_reducible rfl)
  try simp only [Act.put, List.setIfInBounds_toArray, List.set_cons_zero, List.set_cons_succ]
  clear x0 x1 x2 x3 y0 y1 y2 y3 m0 m1 m2 m3
  replace O2 : Hid (Own W0.drew b2) := O2.out.later (Below.refl _ _).drew
  replace O3 : Hid (Own W0.drew b3) := O3.out.later (Below.refl _ _).drew
  clear HS
  generalize W0.drew = y0 at *
  refine wpAnyH_ready (rs := [3]) (by kernel_rfl) (by simp) ?_
  refine AllReadyH.cons (o := ?o3) ?h3 (fun K hK => ?_) AllReadyH.nil
  case h3 => simp only [List.getElem?_toArray]; rfl
  go_simp
  refine (flip_any _ _ _ _ _ _ _ _ _).mono ?_
  rintro e wa ⟨rfl, hb⟩
  rw [HX.out.1, HX.out.2.1, HX.out.2.2.1, HX.out.2.2.2]
  refine hK.out _ _ (hH.later hb) (fun hH' => ?_)
  clear hK K hH
  have hH := hH'
  clear hH'
  try simp only [List.setIfInBounds_toArray, List.set]
  replace O2 : Hid (Own wa b2) := O2.out.later hb
  replace O3 : Hid (Own wa b3) := O3.out.later hb
  clear hb
  refine wpAnyH_take (i := 4) (oi := ?o4) (v := ?v4) ?h4 (by kernel_rfl) ?f4 ?r4 (fun _ _ _ h => h) (Or.inl ⟨?w4, ?y4⟩) (by assumption) ?t4
  case h4 => simp only [List.getElem?_toArray]; rfl
  case f4 => kernel_rfl
  case r4 => kernel_rfl
  case w4 => rfl
  case y4 => (intro u hu; (go_simp) <;> with_reducible rfl)
  try simp only [Act.put, List.setIfInBounds_toArray, List.set_cons_zero, List.set_cons_succ]
  refine wpAnyH_ready (rs := [8]) (by kernel_rfl) (by simp) ?_
  refine AllReadyH.cons (o := ?o8) ?h8 (fun K hK => ?_) AllReadyH.nil
  case h8 => simp only [List.getElem?_toArray]; rfl
  go_simp
  refine (flip_any _ _ _ _ _ _ _ _ _).mono ?_
  rintro e wb ⟨rfl, hb⟩
  rw [HY.out.1, HY.out.2.1, HY.out.2.2.1, HY.out.2.2.2]
  refine hK.out _ _ (hH.later hb) (fun hH' => ?_)
  clear hK K hH
  have hH := hH'
  clear hH'
  try simp only [List.setIfInBounds_toArray, List.set]
  replace O2 : Hid (Own wb b2) := O2.out.later hb
  replace O3 : Hid (Own wb b3) := O3.out.later hb
  clear hb
  refine wpAnyH_take (i := 9) (oi := ?o9) (v := ?v9) ?h9 (by kernel_rfl) ?f9 ?r9 (fun _ _ _ h => h) (Or.inl ⟨?w9, ?y9⟩) (by assumption) ?t9
  case h9 => simp only [List.getElem?_toArray]; rfl
  case f9 => kernel_rfl
  case r9 => kernel_rfl
  case w9 => rfl
  case y9 => (intro u hu; (go_simp) <;> with_reducible rfl)
  try simp only [Act.put, List.setIfInBounds_toArray, List.set_cons_zero, List.set_cons_succ]
  obtain ⟨⟨_, nc0⟩, ⟨_, nc1⟩, ⟨_, nc2⟩, ⟨_, nc3⟩, nf0, nf1, nf2, nf3⟩ := O2.out
  refine wpAnyH_ready (rs := [10]) (by kernel_rfl) (by simp) ?_
  refine AllReadyH.cons (o := ?o10) ?h10 (fun K hK => ?_) AllReadyH.nil
  case h10 => simp only [List.getElem?_toArray]; rfl
  go_simp
  refine hK.out _ _ (hH.set4 b2 (by omega) (by omega) (by omega) (by omega) _ _ _ _) (fun hH' => ?_)
  clear hK K hH
  have hH := hH'
  clear hH'
  try simp only [List.setIfInBounds_toArray, List.set]
  have V10 : Hid (Var ((((wb.setCell ⟨b2, 0, none⟩ (.int .u64 (e0 x'))).setCell ⟨b2, 1, none⟩ (.int .u64 (e1 x'))).setCell ⟨b2, 2, none⟩ (.int .u64 (e2 x'))).setCell ⟨b2, 3, none⟩ (.int .u64 (e3 x'))) b2 x') := var_set wb b2 x' O2.out
  replace O3 : Hid (Own ((((wb.setCell ⟨b2, 0, none⟩ (.int .u64 (e0 x'))).setCell ⟨b2, 1, none⟩ (.int .u64 (e1 x'))).setCell ⟨b2, 2, none⟩ (.int .u64 (e2 x'))).setCell ⟨b2, 3, none⟩ (.int .u64 (e3 x'))) b3) := own_other O3.out (by omega) _ _ _ _
  clear nc0 nc1 nc2 nc3 nf0 nf1 nf2 nf3
  generalize (((wb.setCell ⟨b2, 0, none⟩ (.int .u64 (e0 x'))).setCell ⟨b2, 1, none⟩ (.int .u64 (e1 x'))).setCell ⟨b2, 2, none⟩ (.int .u64 (e2 x'))).setCell ⟨b2, 3, none⟩ (.int .u64 (e3 x')) = c10 at *
  obtain ⟨⟨_, nc0⟩, ⟨_, nc1⟩, ⟨_, nc2⟩, ⟨_, nc3⟩, nf0, nf1, nf2, nf3⟩ := O3.out
  refine wpAnyH_ready (rs := [11]) (by kernel_rfl) (by simp) ?_
  refine AllReadyH.cons (o := ?o11) ?h11 (fun K hK => ?_) AllReadyH.nil
  case h11 => simp only [List.getElem?_toArray]; rfl
  go_simp
  refine hK.out _ _ (hH.set4 b3 (by omega) (by omega) (by omega) (by omega) _ _ _ _) (fun hH' => ?_)
  clear hK K hH
  have hH := hH'
  clear hH'
  try simp only [List.setIfInBounds_toArray, List.set]
  have V11 : Hid (Var ((((c10.setCell ⟨b3, 0, none⟩ (.int .u64 (e0 y'))).setCell ⟨b3, 1, none⟩ (.int .u64 (e1 y'))).setCell ⟨b3, 2, none⟩ (.int .u64 (e2 y'))).setCell ⟨b3, 3, none⟩ (.int .u64 (e3 y'))) b3 y') := var_set c10 b3 y' O3.out
  replace V10 : Hid (Var ((((c10.setCell ⟨b3, 0, none⟩ (.int .u64 (e0 y'))).setCell ⟨b3, 1, none⟩ (.int .u64 (e1 y'))).setCell ⟨b3, 2, none⟩ (.int .u64 (e2 y'))).setCell ⟨b3, 3, none⟩ (.int .u64 (e3 y'))) b2 x') := var_other V10.out (by omega) _ _ _ _
  clear nc0 nc1 nc2 nc3 nf0 nf1 nf2 nf3
  generalize (((c10.setCell ⟨b3, 0, none⟩ (.int .u64 (e0 y'))).setCell ⟨b3, 1, none⟩ (.int .u64 (e1 y'))).setCell ⟨b3, 2, none⟩ (.int .u64 (e2 y'))).setCell ⟨b3, 3, none⟩ (.int .u64 (e3 y')) = c11 at *
  refine wpAnyH_done (by kernel_rfl) ?_ _
  refine NoPanic.normal ?_
  obtain ⟨p0, p1, p2, p3⟩ := V10.out
  obtain ⟨q0, q1, q2, q3⟩ := V11.out
  go_wp2
  exact bodyPost_ret (v := .tuple #[(.agg #[.int .u64 (e0 x'), .int .u64 (e1 x'), .int .u64 (e2 x'), .int .u64 (e3 x')]), (.agg #[.int .u64 (e0 y'), .int .u64 (e1 y'), .int .u64 (e2 y'), .int .u64 (e3 y')])]) (by simp [results, Tryd.results48, go_sem, p0, p1, p2, p3, q0, q1, q2, q3]) rfl ⟨rfl, hH.bel⟩

theorem and_none (a : Int) (h : Wd a) : bits .and .u64 0 a = 0 := by
  obtain ⟨h0, h1⟩ := h
  obtain ⟨a, rfl⟩ := Int.eq_ofNat_of_zero_le h0
  have := bits_and_u64_nat 0 a (by omega) (by omega)
  simpa using this
theorem and_all (a : Int) (h : Wd a) : bits .and .u64 18446744073709551615 a = a := by
  obtain ⟨h0, h1⟩ := h
  obtain ⟨a, rfl⟩ := Int.eq_ofNat_of_zero_le h0
  have := bits_and_u64_nat 18446744073709551615 a (by omega) (by omega)
  have e : 18446744073709551615 &&& a = a := by
    rw [Nat.and_comm]
    have := Nat.and_two_pow_sub_one_eq_mod a 64
    rw [Nat.mod_eq_of_lt (by omega)] at this
    exact this
  rw [e] at this
  exact this
theorem and_one (n : Int) (h : Wd n) : bits .and .u64 n 1 = n % 2 := by
  obtain ⟨h0, h1⟩ := h
  obtain ⟨n, rfl⟩ := Int.eq_ofNat_of_zero_le h0
  have := bits_and_u64_nat n 1 (by omega) (by omega)
  rw [Nat.and_one_is_mod] at this
  rw [show ((n : Int) % 2) = ((n % 2 : Nat) : Int) by omega]
  exact this
theorem swap_even (x y n : Int) (hx : El x) (hy : El y) (hn : Wd n) (h : n % 2 = 0) (w : World) :
    Calls Tryd.prog 48 #[(.agg #[.int .u64 (e0 x), .int .u64 (e1 x), .int .u64 (e2 x), .int .u64 (e3 x)]), (.agg #[.int .u64 (e0 y), .int .u64 (e1 y), .int .u64 (e2 y), .int .u64 (e3 y)]), .int .u64 n] w fun e w' => e = .returned (.tuple #[(.agg #[.int .u64 (e0 x), .int .u64 (e1 x), .int .u64 (e2 x), .int .u64 (e3 x)]), (.agg #[.int .u64 (e0 y), .int .u64 (e1 y), .int .u64 (e2 y), .int .u64 (e3 y)])]) ∧ Below w.heap.size w w' := by
  obtain ⟨x0, x1, x2, x3⟩ := hx.wd
  obtain ⟨y0, y1, y2, y3⟩ := hy.wd
  exact swap_g x y n 0 0 0 0 0 0 x y (by rw [and_one n hn, h]) (by decide) (and_none _ (xo_wd _ _ x0 y0)) (and_none _ (xo_wd _ _ x1 y1)) (and_none _ (xo_wd _ _ x2 y2)) (and_none _ (xo_wd _ _ x3 y3))
    ⟨xo_none _ x0, xo_none _ x1, xo_none _ x2, xo_none _ x3⟩ ⟨xo_none _ y0, xo_none _ y1, xo_none _ y2, xo_none _ y3⟩ w
theorem swap_odd (x y n : Int) (hx : El x) (hy : El y) (hn : Wd n) (h : n % 2 = 1) (w : World) :
    Calls Tryd.prog 48 #[(.agg #[.int .u64 (e0 x), .int .u64 (e1 x), .int .u64 (e2 x), .int .u64 (e3 x)]), (.agg #[.int .u64 (e0 y), .int .u64 (e1 y), .int .u64 (e2 y), .int .u64 (e3 y)]), .int .u64 n] w fun e w' => e = .returned (.tuple #[(.agg #[.int .u64 (e0 y), .int .u64 (e1 y), .int .u64 (e2 y), .int .u64 (e3 y)]), (.agg #[.int .u64 (e0 x), .int .u64 (e1 x), .int .u64 (e2 x), .int .u64 (e3 x)])]) ∧ Below w.heap.size w w' := by
  obtain ⟨x0, x1, x2, x3⟩ := hx.wd
  obtain ⟨y0, y1, y2, y3⟩ := hy.wd
  exact swap_g x y n 1 18446744073709551615 _ _ _ _ y x (by rw [and_one n hn, h]) (by decide) (and_all _ (xo_wd _ _ x0 y0)) (and_all _ (xo_wd _ _ x1 y1)) (and_all _ (xo_wd _ _ x2 y2)) (and_all _ (xo_wd _ _ x3 y3))
    ⟨(xo_self _ _ x0 y0).1, (xo_self _ _ x1 y1).1, (xo_self _ _ x2 y2).1, (xo_self _ _ x3 y3).1⟩ ⟨(xo_self _ _ x0 y0).2, (xo_self _ _ x1 y1).2, (xo_self _ _ x2 y2).2, (xo_self _ _ x3 y3).2⟩ w
end Go.Proofs.YtggjifpcoidipaaDoor
