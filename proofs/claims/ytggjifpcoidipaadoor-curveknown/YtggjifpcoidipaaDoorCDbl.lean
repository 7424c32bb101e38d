/-
  What curve's doubled does. No statement of the seat is proved here.
-/
import Derived.Test.YtggjifpcoidipaaDoorCSq
namespace Go.Proofs.YtggjifpcoidipaaDoor
open Go.RowKit

/-- Sums, differences, products of the field. -/
def fa (x y : Int) : Int := (x + y) % 57896044618658097711785492504343953926634992332820282019728792003956564819949
def fs (x y : Int) : Int := (x - y) % 57896044618658097711785492504343953926634992332820282019728792003956564819949
def fm (x y : Int) : Int := x * y % 57896044618658097711785492504343953926634992332820282019728792003956564819949
def dbz (x y : Int) : Int := fm (fs x y) (fa x (fm (fs x y) 121665))

set_option maxHeartbeats 2000000 in
theorem doubled_e (x y : Int) (hx : El x) (hy : El y) (w : World) :
    Calls Tryd.prog 50 #[(.agg #[.int .u64 (e0 x), .int .u64 (e1 x), .int .u64 (e2 x), .int .u64 (e3 x)]), (.agg #[.int .u64 (e0 y), .int .u64 (e1 y), .int .u64 (e2 y), .int .u64 (e3 y)])] w fun e w' => ∃ zx zz, e = .returned (.agg #[.int .u64 (e0 zx), .int .u64 (e1 zx), .int .u64 (e2 zx), .int .u64 (e3 zx), .int .u64 (e0 zz), .int .u64 (e1 zz), .int .u64 (e2 zz), .int .u64 (e3 zz)]) ∧ El zx ∧ El zz ∧ Hid (zx = fm x y) ∧ Hid (zz = dbz x y) ∧ Below w.heap.size w w' := by
  go_enter Tryd.func50, Tryd.ntmps50
  go_upto_region 1 with fail
  have HB : Hid (Below w.heap.size w (((w.alloc (.cells #[.int .u64 (e0 x), .int .u64 (e1 x), .int .u64 (e2 x), .int .u64 (e3 x)] 28)).alloc (.cells #[.int .u64 (e0 y), .int .u64 (e1 y), .int .u64 (e2 y), .int .u64 (e3 y)] 28)).alloc (.cells #[.int .u64 0, .int .u64 0, .int .u64 0, .int .u64 0, .int .u64 0, .int .u64 0, .int .u64 0, .int .u64 0] 63))) := bel3 _ _ _ _
  have V2 : Hid (Var (((w.alloc (.cells #[.int .u64 (e0 x), .int .u64 (e1 x), .int .u64 (e2 x), .int .u64 (e3 x)] 28)).alloc (.cells #[.int .u64 (e0 y), .int .u64 (e1 y), .int .u64 (e2 y), .int .u64 (e3 y)] 28)).alloc (.cells #[.int .u64 0, .int .u64 0, .int .u64 0, .int .u64 0, .int .u64 0, .int .u64 0, .int .u64 0, .int .u64 0] 63)) (w.heap.size) x) := ⟨by simp [go_sem], by simp [go_sem], by simp [go_sem], by simp [go_sem]⟩
  have V3 : Hid (Var (((w.alloc (.cells #[.int .u64 (e0 x), .int .u64 (e1 x), .int .u64 (e2 x), .int .u64 (e3 x)] 28)).alloc (.cells #[.int .u64 (e0 y), .int .u64 (e1 y), .int .u64 (e2 y), .int .u64 (e3 y)] 28)).alloc (.cells #[.int .u64 0, .int .u64 0, .int .u64 0, .int .u64 0, .int .u64 0, .int .u64 0, .int .u64 0, .int .u64 0] 63)) (w.heap.size + 1) y) := ⟨by simp [go_sem], by simp [go_sem], by simp [go_sem], by simp [go_sem]⟩
  have O4 : Hid (Fo (((w.alloc (.cells #[.int .u64 (e0 x), .int .u64 (e1 x), .int .u64 (e2 x), .int .u64 (e3 x)] 28)).alloc (.cells #[.int .u64 (e0 y), .int .u64 (e1 y), .int .u64 (e2 y), .int .u64 (e3 y)] 28)).alloc (.cells #[.int .u64 0, .int .u64 0, .int .u64 0, .int .u64 0, .int .u64 0, .int .u64 0, .int .u64 0, .int .u64 0] 63)) (w.heap.size + 1 + 1)) := ⟨⟨_, by simp [go_sem]; rfl⟩, ⟨_, by simp [go_sem]; rfl⟩, ⟨_, by simp [go_sem]; rfl⟩, ⟨_, by simp [go_sem]; rfl⟩, ⟨_, by simp [go_sem]; rfl⟩, ⟨_, by simp [go_sem]; rfl⟩, ⟨_, by simp [go_sem]; rfl⟩, ⟨_, by simp [go_sem]; rfl⟩, by simp [go_sem], by simp [go_sem], by simp [go_sem], by simp [go_sem], by simp [go_sem], by simp [go_sem], by simp [go_sem], by simp [go_sem]⟩
  generalize ((w.alloc (.cells #[.int .u64 (e0 x), .int .u64 (e1 x), .int .u64 (e2 x), .int .u64 (e3 x)] 28)).alloc (.cells #[.int .u64 (e0 y), .int .u64 (e1 y), .int .u64 (e2 y), .int .u64 (e3 y)] 28)).alloc (.cells #[.int .u64 0, .int .u64 0, .int .u64 0, .int .u64 0, .int .u64 0, .int .u64 0, .int .u64 0, .int .u64 0] 63) = W0 at *
  have hq1 : w.heap.size < w.heap.size + 1 := by omega
  have hq2 : w.heap.size + 1 < w.heap.size + 1 + 1 := by omega
  have hw2 : w.heap.size ≤ w.heap.size + 1 + 1 := by omega
  have hw1 : w.heap.size ≤ w.heap.size + 1 := by omega
  have hw0 : w.heap.size ≤ w.heap.size := Nat.le_refl _
  generalize w.heap.size + 1 + 1 = q2 at *
  generalize w.heap.size + 1 = q1 at *
  obtain ⟨q0, hq0⟩ : ∃ q, q = w.heap.size := ⟨_, rfl⟩
  clear hq0 q0
  obtain ⟨V2c0, V2c1, V2c2, V2c3⟩ := V2.out
  obtain ⟨V3c0, V3c1, V3c2, V3c3⟩ := V3.out
  go_wp2_with fail
  refine (sub_e x y hx hy _).mono ?_
  rintro e u1_0 ⟨z8, rfl, hz8, Hz8, hb1_0⟩
  have hc1_1 : Hid (Below W0.heap.size W0 u1_0) := hb1_0
  clear hb1_0
  try clear V2c0 V2c1 V2c2 V2c3
  try clear V3c0 V3c1 V3c2 V3c3
  go_upto_region 2 with fail
  have hX : Hid (Below W0.heap.size W0 (u1_0.alloc (.cells #[.int .u64 (e0 z8), .int .u64 (e1 z8), .int .u64 (e2 z8), .int .u64 (e3 z8)] 28))) := hc1_1.out.trans ((bel1 u1_0 _).mono hc1_1.out.size)
  have V5 : Hid (Var (u1_0.alloc (.cells #[.int .u64 (e0 z8), .int .u64 (e1 z8), .int .u64 (e2 z8), .int .u64 (e3 z8)] 28)) (u1_0.heap.size) z8) := var_new u1_0 z8 _
  have hge5 : w.heap.size ≤ u1_0.heap.size := Nat.le_trans HB.out.size hc1_1.out.size
  have lt5_V2 : w.heap.size < u1_0.heap.size := (V2.out.later hc1_1.out).lt
  have lt5_V3 : q1 < u1_0.heap.size := (V3.out.later hc1_1.out).lt
  have lt5_O4 : q2 < u1_0.heap.size := (O4.out.later hc1_1.out).lt
  generalize u1_0.alloc (.cells #[.int .u64 (e0 z8), .int .u64 (e1 z8), .int .u64 (e2 z8), .int .u64 (e3 z8)] 28) = W5 at *
  generalize u1_0.heap.size = b5 at *
  replace V2 : Hid (Var W5 w.heap.size x) := V2.out.later hX.out
  replace V3 : Hid (Var W5 q1 y) := V3.out.later hX.out
  replace O4 : Hid (Fo W5 q2) := O4.out.later hX.out
  replace HB : Hid (Below w.heap.size w W5) := HB.out.trans (Below.mono hX.out HB.out.size)
  clear hX hc1_1
  obtain ⟨V2c0, V2c1, V2c2, V2c3⟩ := V2.out
  have V2u0 : ∀ u, ExtL [q2] W5 u → u.cell? ⟨w.heap.size, 0, none⟩ = some (.int .u64 (e0 x)) := fun u hu => hu.cell (by simp only [List.mem_cons, List.not_mem_nil, or_false]; omega) V2c0
  have V2u1 : ∀ u, ExtL [q2] W5 u → u.cell? ⟨w.heap.size, 1, none⟩ = some (.int .u64 (e1 x)) := fun u hu => hu.cell (by simp only [List.mem_cons, List.not_mem_nil, or_false]; omega) V2c1
  have V2u2 : ∀ u, ExtL [q2] W5 u → u.cell? ⟨w.heap.size, 2, none⟩ = some (.int .u64 (e2 x)) := fun u hu => hu.cell (by simp only [List.mem_cons, List.not_mem_nil, or_false]; omega) V2c2
  have V2u3 : ∀ u, ExtL [q2] W5 u → u.cell? ⟨w.heap.size, 3, none⟩ = some (.int .u64 (e3 x)) := fun u hu => hu.cell (by simp only [List.mem_cons, List.not_mem_nil, or_false]; omega) V2c3
  clear V2c0 V2c1 V2c2 V2c3
  obtain ⟨V3c0, V3c1, V3c2, V3c3⟩ := V3.out
  have V3u0 : ∀ u, ExtL [q2] W5 u → u.cell? ⟨q1, 0, none⟩ = some (.int .u64 (e0 y)) := fun u hu => hu.cell (by simp only [List.mem_cons, List.not_mem_nil, or_false]; omega) V3c0
  have V3u1 : ∀ u, ExtL [q2] W5 u → u.cell? ⟨q1, 1, none⟩ = some (.int .u64 (e1 y)) := fun u hu => hu.cell (by simp only [List.mem_cons, List.not_mem_nil, or_false]; omega) V3c1
  have V3u2 : ∀ u, ExtL [q2] W5 u → u.cell? ⟨q1, 2, none⟩ = some (.int .u64 (e2 y)) := fun u hu => hu.cell (by simp only [List.mem_cons, List.not_mem_nil, or_false]; omega) V3c2
  have V3u3 : ∀ u, ExtL [q2] W5 u → u.cell? ⟨q1, 3, none⟩ = some (.int .u64 (e3 y)) := fun u hu => hu.cell (by simp only [List.mem_cons, List.not_mem_nil, or_false]; omega) V3c3
  clear V3c0 V3c1 V3c2 V3c3
  obtain ⟨V5c0, V5c1, V5c2, V5c3⟩ := V5.out
  have V5u0 : ∀ u, ExtL [q2] W5 u → u.cell? ⟨b5, 0, none⟩ = some (.int .u64 (e0 z8)) := fun u hu => hu.cell (by simp only [List.mem_cons, List.not_mem_nil, or_false]; omega) V5c0
  have V5u1 : ∀ u, ExtL [q2] W5 u → u.cell? ⟨b5, 1, none⟩ = some (.int .u64 (e1 z8)) := fun u hu => hu.cell (by simp only [List.mem_cons, List.not_mem_nil, or_false]; omega) V5c1
  have V5u2 : ∀ u, ExtL [q2] W5 u → u.cell? ⟨b5, 2, none⟩ = some (.int .u64 (e2 z8)) := fun u hu => hu.cell (by simp only [List.mem_cons, List.not_mem_nil, or_false]; omega) V5c2
  have V5u3 : ∀ u, ExtL [q2] W5 u → u.cell? ⟨b5, 3, none⟩ = some (.int .u64 (e3 z8)) := fun u hu => hu.cell (by simp only [List.mem_cons, List.not_mem_nil, or_false]; omega) V5c3
  clear V5c0 V5c1 V5c2 V5c3
  refine wp_region_noPanic ?_
  refine wp_region_held_drew (S := ExtL [q2] W5) (by kernel_rfl) (ExtL.refl _ _).drew (fun hH => ?_)
  change wpAnyH _ _ _ _ _ _ #[false, false, false, false, false, false, false, false, false, false, false] _ _
  replace O4 : Hid (Fo W5.drew q2) := O4.out.later (Below.refl _ _).drew
  generalize W5.drew = y0 at *
  refine wpAnyH_take (i := 0) (oi := ?o0r2) (v := ?v0r2) ?h0r2 (by kernel_rfl) ?f0r2 ?r0r2 (fun _ _ _ h => h) (Or.inl ⟨?w0r2, ?y0r2⟩) (by assumption) ?t0r2
  case h0r2 => simp only [List.getElem?_toArray]; rfl
  case f0r2 => kernel_rfl
  case r0r2 => kernel_rfl
  case w0r2 => rfl
  case y0r2 => (intro u hu; (go_simp) <;> with_reducible rfl)
  try simp only [Act.put, List.setIfInBounds_toArray, List.set_cons_zero, List.set_cons_succ]
  refine wpAnyH_take (i := 1) (oi := ?o1r2) (v := ?v1r2) ?h1r2 (by kernel_rfl) ?f1r2 ?r1r2 (fun _ _ _ h => h) (Or.inl ⟨?w1r2, ?y1r2⟩) (by assumption) ?t1r2
  case h1r2 => simp only [List.getElem?_toArray]; rfl
  case f1r2 => kernel_rfl
  case r1r2 => kernel_rfl
  case w1r2 => rfl
  case y1r2 => (intro u hu; (go_simp) <;> with_reducible rfl)
  try simp only [Act.put, List.setIfInBounds_toArray, List.set_cons_zero, List.set_cons_succ]
  refine wpAnyH_take (i := 3) (oi := ?o3r2) (v := ?v3r2) ?h3r2 (by kernel_rfl) ?f3r2 ?r3r2 (fun _ _ _ h => h) (Or.inl ⟨?w3r2, ?y3r2⟩) (by assumption) ?t3r2
  case h3r2 => simp only [List.getElem?_toArray]; rfl
  case f3r2 => kernel_rfl
  case r3r2 => kernel_rfl
  case w3r2 => rfl
  case y3r2 => (intro u hu; (go_simp) <;> with_reducible rfl)
  try simp only [Act.put, List.setIfInBounds_toArray, List.set_cons_zero, List.set_cons_succ]
  refine wpAnyH_take (i := 4) (oi := ?o4r2) (v := ?v4r2) ?h4r2 (by kernel_rfl) ?f4r2 ?r4r2 (fun _ _ _ h => h) (Or.inl ⟨?w4r2, ?y4r2⟩) (by assumption) ?t4r2
  case h4r2 => simp only [List.getElem?_toArray]; rfl
  case f4r2 => kernel_rfl
  case r4r2 => kernel_rfl
  case w4r2 => rfl
  case y4r2 => (intro u hu; (go_simp) <;> with_reducible rfl)
  try simp only [Act.put, List.setIfInBounds_toArray, List.set_cons_zero, List.set_cons_succ]
  refine wpAnyH_take (i := 5) (oi := ?o5r2) (v := ?v5r2) ?h5r2 (by kernel_rfl) ?f5r2 ?r5r2 (fun _ _ _ h => h) (Or.inl ⟨?w5r2, ?y5r2⟩) (by assumption) ?t5r2
  case h5r2 => simp only [List.getElem?_toArray]; rfl
  case f5r2 => kernel_rfl
  case r5r2 => kernel_rfl
  case w5r2 => rfl
  case y5r2 => (intro u hu; (go_simp) <;> with_reducible rfl)
  try simp only [Act.put, List.setIfInBounds_toArray, List.set_cons_zero, List.set_cons_succ]
  refine wpAnyH_ready (rs := [2]) (by kernel_rfl) (by simp) ?_
  refine AllReadyH.cons (o := ?o2r2) ?h2r2 (fun K hK => ?_) AllReadyH.nil
  case h2r2 => simp only [List.getElem?_toArray]; rfl
  go_simp
  refine (mul_e x y hx hy _).mono ?_
  rintro e c2_2 ⟨z11, rfl, hz11, Hz11, hb2_2⟩
  refine hK.out _ _ (hH.trans hb2_2) (fun hH' => ?_)
  clear hK K hH
  have hH := hH'
  clear hH'
  try simp only [List.setIfInBounds_toArray, List.set]
  replace O4 : Hid (Fo c2_2 q2) := O4.out.later hb2_2
  clear hb2_2
  refine wpAnyH_ready (rs := [6]) (by kernel_rfl) (by simp) ?_
  refine AllReadyH.cons (o := ?o6r2) ?h6r2 (fun K hK => ?_) AllReadyH.nil
  case h6r2 => simp only [List.getElem?_toArray]; rfl
  go_simp
  refine (small_e z8 121665 hz8 (by decide) _).mono ?_
  rintro e c2_6 ⟨z15, rfl, hz15, Hz15, hb2_6⟩
  refine hK.out _ _ (hH.trans hb2_6) (fun hH' => ?_)
  clear hK K hH
  have hH := hH'
  clear hH'
  try simp only [List.setIfInBounds_toArray, List.set]
  replace O4 : Hid (Fo c2_6 q2) := O4.out.later hb2_6
  clear hb2_6
  refine wpAnyH_ready (rs := [7]) (by kernel_rfl) (by simp) ?_
  refine AllReadyH.cons (o := ?o7r2) ?h7r2 (fun K hK => ?_) AllReadyH.nil
  case h7r2 => simp only [List.getElem?_toArray]; rfl
  go_simp
  refine (add_e x z15 hx hz15 _).mono ?_
  rintro e c2_7 ⟨z16, rfl, hz16, Hz16, hb2_7⟩
  refine hK.out _ _ (hH.trans hb2_7) (fun hH' => ?_)
  clear hK K hH
  have hH := hH'
  clear hH'
  try simp only [List.setIfInBounds_toArray, List.set]
  replace O4 : Hid (Fo c2_7 q2) := O4.out.later hb2_7
  clear hb2_7
  refine wpAnyH_ready (rs := [8]) (by kernel_rfl) (by simp) ?_
  refine AllReadyH.cons (o := ?o8r2) ?h8r2 (fun K hK => ?_) AllReadyH.nil
  case h8r2 => simp only [List.getElem?_toArray]; rfl
  go_simp
  refine (mul_e z8 z16 hz8 hz16 _).mono ?_
  rintro e c2_8 ⟨z17, rfl, hz17, Hz17, hb2_8⟩
  refine hK.out _ _ (hH.trans hb2_8) (fun hH' => ?_)
  clear hK K hH
  have hH := hH'
  clear hH'
  try simp only [List.setIfInBounds_toArray, List.set]
  replace O4 : Hid (Fo c2_8 q2) := O4.out.later hb2_8
  clear hb2_8
  refine wpAnyH_take (i := 9) (oi := ?o9r2) (v := ?v9r2) ?h9r2 (by kernel_rfl) ?f9r2 ?r9r2 (fun _ _ _ h => h) (Or.inl ⟨?w9r2, ?y9r2⟩) (by assumption) ?t9r2
  case h9r2 => simp only [List.getElem?_toArray]; rfl
  case f9r2 => kernel_rfl
  case r9r2 => kernel_rfl
  case w9r2 => rfl
  case y9r2 => (intro u hu; (go_simp) <;> with_reducible rfl)
  try simp only [Act.put, List.setIfInBounds_toArray, List.set_cons_zero, List.set_cons_succ]
  obtain ⟨⟨_, nc0⟩, ⟨_, nc1⟩, ⟨_, nc2⟩, ⟨_, nc3⟩, ⟨_, nc4⟩, ⟨_, nc5⟩, ⟨_, nc6⟩, ⟨_, nc7⟩, nf0, nf1, nf2, nf3, nf4, nf5, nf6, nf7⟩ := O4.out
  refine wpAnyH_ready (rs := [10]) (by kernel_rfl) (by simp) ?_
  refine AllReadyH.cons (o := ?o10r2) ?h10r2 (fun K hK => ?_) AllReadyH.nil
  case h10r2 => simp only [List.getElem?_toArray]; rfl
  go_simp
  refine hK.out _ _ (hH.set8 (by simp) _ _ _ _ _ _ _ _) (fun hH' => ?_)
  clear hK K hH
  have hH := hH'
  clear hH'
  try simp only [List.setIfInBounds_toArray, List.set]
  have R4 : Hid (Fr ((((((((c2_8.setCell ⟨q2, 0, none⟩ (.int .u64 (e0 z11))).setCell ⟨q2, 1, none⟩ (.int .u64 (e1 z11))).setCell ⟨q2, 2, none⟩ (.int .u64 (e2 z11))).setCell ⟨q2, 3, none⟩ (.int .u64 (e3 z11))).setCell ⟨q2, 4, none⟩ (.int .u64 (e0 z17))).setCell ⟨q2, 5, none⟩ (.int .u64 (e1 z17))).setCell ⟨q2, 6, none⟩ (.int .u64 (e2 z17))).setCell ⟨q2, 7, none⟩ (.int .u64 (e3 z17))) q2 z11 z17) := fr_set c2_8 q2 z11 z17 O4.out
  clear O4
  clear nc0 nf0 nc1 nf1 nc2 nf2 nc3 nf3 nc4 nf4 nc5 nf5 nc6 nf6 nc7 nf7
  generalize (((((((c2_8.setCell ⟨q2, 0, none⟩ (.int .u64 (e0 z11))).setCell ⟨q2, 1, none⟩ (.int .u64 (e1 z11))).setCell ⟨q2, 2, none⟩ (.int .u64 (e2 z11))).setCell ⟨q2, 3, none⟩ (.int .u64 (e3 z11))).setCell ⟨q2, 4, none⟩ (.int .u64 (e0 z17))).setCell ⟨q2, 5, none⟩ (.int .u64 (e1 z17))).setCell ⟨q2, 6, none⟩ (.int .u64 (e2 z17))).setCell ⟨q2, 7, none⟩ (.int .u64 (e3 z17)) = x2_10 at *
  refine wpAnyH_done (by kernel_rfl) ?_ _
  refine NoPanic.normal ?_
  obtain ⟨p4_0, p4_1, p4_2, p4_3, p4_4, p4_5, p4_6, p4_7⟩ := R4.out
  go_wp2
  refine bodyPost_ret (v := (.agg #[.int .u64 (e0 z11), .int .u64 (e1 z11), .int .u64 (e2 z11), .int .u64 (e3 z11), .int .u64 (e0 z17), .int .u64 (e1 z17), .int .u64 (e2 z17), .int .u64 (e3 z17)])) (by simp [results, Tryd.results50, go_sem, p4_0, p4_1, p4_2, p4_3, p4_4, p4_5, p4_6, p4_7]) rfl ⟨_, _, rfl, hz11, hz17, ?_, ?_, (hH.below HB.out (fun b hb => by simp only [List.mem_cons, List.not_mem_nil, or_false] at hb; omega))⟩
  · exact Hz11
  · unfold Hid dbz fm fa fs
    rw [Hz17.out, Hz16.out, Hz15.out, Hz8.out]
end Go.Proofs.YtggjifpcoidipaaDoor
