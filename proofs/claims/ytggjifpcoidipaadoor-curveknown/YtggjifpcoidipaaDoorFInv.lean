/-
  What field's Invert does: the power p - 2, for whatever number below p. No statement of the seat is proved here.
-/
import Derived.Test.YtggjifpcoidipaaDoorFSq
namespace Go.Proofs.YtggjifpcoidipaaDoor
open Go.RowKit

/-- A variable of its own in memory that holds a number. -/
structure Var (u : World) (b : Nat) (v : Int) : Prop where
  c0 : u.cell? ⟨b, 0, none⟩ = some (.int .u64 (e0 v))
  c1 : u.cell? ⟨b, 1, none⟩ = some (.int .u64 (e1 v))
  c2 : u.cell? ⟨b, 2, none⟩ = some (.int .u64 (e2 v))
  c3 : u.cell? ⟨b, 3, none⟩ = some (.int .u64 (e3 v))
theorem Var.later {u u' : World} {b : Nat} {v : Int} (h : Var u b v) (hb : Below u.heap.size u u') : Var u' b v := ⟨cell_later hb h.c0, cell_later hb h.c1, cell_later hb h.c2, cell_later hb h.c3⟩
/-- A variable that may be written. -/
structure Own (u : World) (b : Nat) : Prop where
  c0 : ∃ x, u.cell? ⟨b, 0, none⟩ = some x
  c1 : ∃ x, u.cell? ⟨b, 1, none⟩ = some x
  c2 : ∃ x, u.cell? ⟨b, 2, none⟩ = some x
  c3 : ∃ x, u.cell? ⟨b, 3, none⟩ = some x
  f0 : u.frozen? ⟨b, 0, none⟩ = false
  f1 : u.frozen? ⟨b, 1, none⟩ = false
  f2 : u.frozen? ⟨b, 2, none⟩ = false
  f3 : u.frozen? ⟨b, 3, none⟩ = false
theorem Own.lt {u : World} {b : Nat} (h : Own u b) : b < u.heap.size := by
  obtain ⟨x, hx⟩ := h.c0
  exact World.block_lt_of_cell? u _ hx
theorem Own.later {u u' : World} {b : Nat} (h : Own u b) (hb : Below u.heap.size u u') : Own u' b :=
  ⟨h.c0.elim fun x hx => ⟨x, cell_later hb hx⟩, h.c1.elim fun x hx => ⟨x, cell_later hb hx⟩, h.c2.elim fun x hx => ⟨x, cell_later hb hx⟩, h.c3.elim fun x hx => ⟨x, cell_later hb hx⟩,
    froz_later hb h.lt h.f0, froz_later hb h.lt h.f1, froz_later hb h.lt h.f2, froz_later hb h.lt h.f3⟩
theorem own_new (u : World) (x0 x1 x2 x3 : Value) (t : TypeId) : Own (u.alloc (.cells #[x0, x1, x2, x3] t)) u.heap.size :=
  ⟨⟨x0, by simp [go_sem]⟩, ⟨x1, by simp [go_sem]⟩, ⟨x2, by simp [go_sem]⟩, ⟨x3, by simp [go_sem]⟩, by simp [go_sem], by simp [go_sem], by simp [go_sem], by simp [go_sem]⟩
theorem var_new (u : World) (v : Int) (t : TypeId) : Var (u.alloc (.cells #[.int .u64 (e0 v), .int .u64 (e1 v), .int .u64 (e2 v), .int .u64 (e3 v)] t)) u.heap.size v :=
  ⟨by simp [go_sem], by simp [go_sem], by simp [go_sem], by simp [go_sem]⟩
theorem var_set (u : World) (b : Nat) (v : Int) (h : Own u b) : Var ((((u.setCell ⟨b, 0, none⟩ (.int .u64 (e0 v))).setCell ⟨b, 1, none⟩ (.int .u64 (e1 v))).setCell ⟨b, 2, none⟩ (.int .u64 (e2 v))).setCell ⟨b, 3, none⟩ (.int .u64 (e3 v))) b v := by
  obtain ⟨⟨x0, h0⟩, ⟨x1, h1⟩, ⟨x2, h2⟩, ⟨x3, h3⟩, _⟩ := h
  exact ⟨by simp [go_sem, h0], by simp [go_sem, h1], by simp [go_sem, h2], by simp [go_sem, h3]⟩

theorem ExtB.set4 {b : Nat} {a u : World} (h : ExtB b a u) (n : Nat) (hn : a.heap.size ≤ n) (v0 v1 v2 v3 : Value) : ExtB b a ((((u.setCell ⟨n, 0, none⟩ v0).setCell ⟨n, 1, none⟩ v1).setCell ⟨n, 2, none⟩ v2).setCell ⟨n, 3, none⟩ v3) :=
  (((h.setNew _ hn _).setNew _ hn _).setNew _ hn _).setNew _ hn _
theorem below_set4 {B : Nat} {a u : World} (h : Below B a u) (n : Nat) (hn : B ≤ n) (v0 v1 v2 v3 : Value) : Below B a ((((u.setCell ⟨n, 0, none⟩ v0).setCell ⟨n, 1, none⟩ v1).setCell ⟨n, 2, none⟩ v2).setCell ⟨n, 3, none⟩ v3) :=
  (((h.setCell (p := ⟨n, 0, none⟩) hn _).setCell (p := ⟨n, 1, none⟩) hn _).setCell (p := ⟨n, 2, none⟩) hn _).setCell (p := ⟨n, 3, none⟩) hn _

set_option maxHeartbeats 8000000 in
theorem invert_g (x0 x : Int) (hx : El x) (HX : Hid (x = pw x0 1)) (w : World) :
    Calls Tryd.prog 14 #[(.agg #[.int .u64 (e0 x), .int .u64 (e1 x), .int .u64 (e2 x), .int .u64 (e3 x)])] w fun e w' => ∃ z, e = .returned (.agg #[.int .u64 (e0 z), .int .u64 (e1 z), .int .u64 (e2 z), .int .u64 (e3 z)]) ∧ El z ∧ Hid (z = pw x0 57896044618658097711785492504343953926634992332820282019728792003956564819947) ∧ Below w.heap.size w w' := by
  go_enter Tryd.func14, Tryd.ntmps14
  go_upto_region 1 with fail
  have Va : Hid (Var ((w.alloc (.cells #[.int .u64 (e0 x), .int .u64 (e1 x), .int .u64 (e2 x), .int .u64 (e3 x)] 28)).alloc (.cells #[.int .u64 0, .int .u64 0, .int .u64 0, .int .u64 0] 28)) (w.heap.size) x) := (var_new w x _).later (bel1 _ _)
  have OD : Hid (Own ((w.alloc (.cells #[.int .u64 (e0 x), .int .u64 (e1 x), .int .u64 (e2 x), .int .u64 (e3 x)] 28)).alloc (.cells #[.int .u64 0, .int .u64 0, .int .u64 0, .int .u64 0] 28)) (w.heap.size + 1)) := by have := own_new (w.alloc (.cells #[.int .u64 (e0 x), .int .u64 (e1 x), .int .u64 (e2 x), .int .u64 (e3 x)] 28)) (.int .u64 0) (.int .u64 0) (.int .u64 0) (.int .u64 0) 28; simpa [Hid] using this
  have HB : Hid (Below w.heap.size w ((w.alloc (.cells #[.int .u64 (e0 x), .int .u64 (e1 x), .int .u64 (e2 x), .int .u64 (e3 x)] 28)).alloc (.cells #[.int .u64 0, .int .u64 0, .int .u64 0, .int .u64 0] 28))) := bel2 _ _ _
  have hz : w.heap.size + 1 < ((w.alloc (.cells #[.int .u64 (e0 x), .int .u64 (e1 x), .int .u64 (e2 x), .int .u64 (e3 x)] 28)).alloc (.cells #[.int .u64 0, .int .u64 0, .int .u64 0, .int .u64 0] 28)).heap.size := by simp
  generalize (w.alloc (.cells #[.int .u64 (e0 x), .int .u64 (e1 x), .int .u64 (e2 x), .int .u64 (e3 x)] 28)).alloc (.cells #[.int .u64 0, .int .u64 0, .int .u64 0, .int .u64 0] 28) = W1 at *
  have ha : w.heap.size < w.heap.size + 1 ∨ w.heap.size + 1 < w.heap.size := by omega
  go_cut [3] from 14 (fun tv wc => ∃ (b : Nat) (v : Int), tv = .pointer (some ⟨b, 0, none⟩) ∧ El v ∧ Hid (v = pw x0 2) ∧ Hid (Var wc b v) ∧ w.heap.size + 1 < b ∧ Hid (Below W1.heap.size W1 wc))
  case first =>
    obtain ⟨ac0, ac1, ac2, ac3⟩ := Va.out
    go_wp2_with fail
    refine (mul_e _ _ hx hx _).mono ?_
    rintro e wb ⟨v, rfl, hv, HV, hb⟩
    have HV' : Hid (v = pw x0 2) := by unfold Hid; rw [HV.out]; have h1 := HX.out; rw [h1, pw_mul]
    have hs : w.heap.size + 1 < wb.heap.size := by have := hb.size; omega
    go_wp2_with fail
    go_meet
    case rel => exact ⟨wb.heap.size, v, rfl, hv, HV', var_new wb v _, hs, hb.trans ((bel1 wb _).mono hb.size)⟩
  obtain ⟨b1, v1, rfl, hv1, HV1, Vm1, hlt1, hb⟩ := hcut
  replace Va : Hid (Var wc (w.heap.size) x) := Va.out.later hb.out
  replace OD : Hid (Own wc (w.heap.size + 1)) := OD.out.later hb.out
  replace HB : Hid (Below w.heap.size w wc) := HB.out.trans (hb.out.mono (by omega))
  replace hz : w.heap.size + 1 < wc.heap.size := by have := hb.out.size; omega
  clear hb 
  generalize wc = W2 at *
  go_upto_region 2 with fail
  go_cut [4] from 14 (fun tv wc => ∃ (b : Nat) (v : Int), tv = .pointer (some ⟨b, 0, none⟩) ∧ El v ∧ Hid (v = pw x0 9) ∧ Hid (Var wc b v) ∧ w.heap.size + 1 < b ∧ Hid (Below W2.heap.size W2 wc))
  case first =>
    obtain ⟨m1c0, m1c1, m1c2, m1c3⟩ := Vm1.out
    have m1u0 : ∀ u, ExtB (w.heap.size + 1) W2 u → u.cell? ⟨b1, 0, none⟩ = some (.int .u64 (e0 v1)) := fun u hu => hu.cell (by omega) m1c0
    have m1u1 : ∀ u, ExtB (w.heap.size + 1) W2 u → u.cell? ⟨b1, 1, none⟩ = some (.int .u64 (e1 v1)) := fun u hu => hu.cell (by omega) m1c1
    have m1u2 : ∀ u, ExtB (w.heap.size + 1) W2 u → u.cell? ⟨b1, 2, none⟩ = some (.int .u64 (e2 v1)) := fun u hu => hu.cell (by omega) m1c2
    have m1u3 : ∀ u, ExtB (w.heap.size + 1) W2 u → u.cell? ⟨b1, 3, none⟩ = some (.int .u64 (e3 v1)) := fun u hu => hu.cell (by omega) m1c3
    clear m1c0 m1c1 m1c2 m1c3
    obtain ⟨ac0, ac1, ac2, ac3⟩ := Va.out
    have au0 : ∀ u, ExtB (w.heap.size + 1) W2 u → u.cell? ⟨w.heap.size, 0, none⟩ = some (.int .u64 (e0 x)) := fun u hu => hu.cell (by omega) ac0
    have au1 : ∀ u, ExtB (w.heap.size + 1) W2 u → u.cell? ⟨w.heap.size, 1, none⟩ = some (.int .u64 (e1 x)) := fun u hu => hu.cell (by omega) ac1
    have au2 : ∀ u, ExtB (w.heap.size + 1) W2 u → u.cell? ⟨w.heap.size, 2, none⟩ = some (.int .u64 (e2 x)) := fun u hu => hu.cell (by omega) ac2
    have au3 : ∀ u, ExtB (w.heap.size + 1) W2 u → u.cell? ⟨w.heap.size, 3, none⟩ = some (.int .u64 (e3 x)) := fun u hu => hu.cell (by omega) ac3
    clear ac0 ac1 ac2 ac3
    refine wp_region_noPanic ?_
    refine wp_region_held_drew (S := ExtB (w.heap.size + 1) W2) (by kernel_rfl) (ExtB.refl _ _).drew (fun hH => ?_)
    refine wpAnyH_take (i := 0) (oi := ?o0r2) (v := ?v0r2) ?h0r2 (by kernel_rfl) ?f0r2 ?r0r2 (fun _ _ _ h => h) (Or.inl ⟨?w0r2, ?y0r2⟩) (by assumption) ?t0r2
    case h0r2 => simp only [List.getElem?_toArray, List.getElem?_cons_zero]; rfl
    case f0r2 => kernel_rfl
    case r0r2 => kernel_rfl
    case w0r2 => rfl
    case y0r2 => (intro u hu; (go_simp) <;> with_reducible rfl)
    try simp only [Act.put, List.setIfInBounds_toArray, List.set_cons_zero, List.set_cons_succ]
    refine wpAnyH_take (i := 2) (oi := ?o2r2) (v := ?v2r2) ?h2r2 (by kernel_rfl) ?f2r2 ?r2r2 (fun _ _ _ h => h) (Or.inl ⟨?w2r2, ?y2r2⟩) (by assumption) ?t2r2
    case h2r2 => simp only [List.getElem?_toArray, List.getElem?_cons_succ, List.getElem?_cons_zero]; rfl
    case f2r2 => kernel_rfl
    case r2r2 => kernel_rfl
    case w2r2 => rfl
    case y2r2 => (intro u hu; (go_simp) <;> with_reducible rfl)
    try simp only [Act.put, List.setIfInBounds_toArray, List.set_cons_zero, List.set_cons_succ]
    clear m1u0 m1u1 m1u2 m1u3 au0 au1 au2 au3
    refine wpAnyH_ready (rs := [1, 4]) (by kernel_rfl) (by simp) ?_
    refine AllReadyH.cons (o := ?o1a2) ?h1a2 (fun K hK => ?c1a2) (AllReadyH.cons (o := ?o4a2) ?h4a2 (fun K hK => ?c4a2) AllReadyH.nil)
    case h1a2 => simp only [List.getElem?_toArray, List.getElem?_cons_succ, List.getElem?_cons_zero]; rfl
    case h4a2 => simp only [List.getElem?_toArray, List.getElem?_cons_succ, List.getElem?_cons_zero]; rfl
    case c1a2 =>
      go_simp
      refine (squared_e x0 2 2 (by decide) v1 hv1 HV1 _).mono ?_
      rintro e wa ⟨s, rfl, hs, HS, hb1⟩
      rw [show 2 * 2 ^ 2 = 8 from by decide] at HS
      refine hK.out _ _ (hH.trans hb1) (fun hH' => ?_)
      clear hK K hH
      have hH := hH'
      clear hH'
      try simp only [Act.put, List.setIfInBounds_toArray, List.set_cons_zero, List.set_cons_succ]
      refine wpAnyH_ready (rs := [3, 4]) (by kernel_rfl) (by simp) ?_
      refine AllReadyH.cons (o := ?o3b2) ?h3b2 (fun K hK => ?c3b2) (AllReadyH.cons (o := ?o4b2) ?h4b2 (fun K hK => ?c4b2) AllReadyH.nil)
      case h3b2 => simp only [List.getElem?_toArray, List.getElem?_cons_succ, List.getElem?_cons_zero]; rfl
      case h4b2 => simp only [List.getElem?_toArray, List.getElem?_cons_succ, List.getElem?_cons_zero]; rfl
      case c3b2 =>
        go_simp
        refine (mul_e _ _ hs hx _).mono ?_
        rintro e wb ⟨v, rfl, hv, HV, hb2⟩
        have HV' : Hid (v = pw x0 9) := by unfold Hid; rw [HV.out]; have h1 := HS.out; have h2 := HX.out; rw [h1, h2, pw_mul]
        refine hK.out _ _ (hH.trans hb2) (fun hH' => ?_)
        clear hK K hH
        have hH := hH'
        clear hH'
        try simp only [Act.put, List.setIfInBounds_toArray, List.set_cons_zero, List.set_cons_succ]
        have hb : Below W2.heap.size W2 wb := (((Below.refl _ _).drew.trans (hb1.mono (Nat.le_refl _))).trans (hb2.mono hb1.size))
        have hs' : w.heap.size + 1 < wb.heap.size := by have := hb.size; omega
        have hHa := hH
        refine wpAnyH_ready (rs := [4]) (by kernel_rfl) (by simp) ?_
        refine AllReadyH.cons (o := ?o4c2) ?h4c2 (fun K hK => ?_) AllReadyH.nil
        case h4c2 => simp only [List.getElem?_toArray, List.getElem?_cons_succ, List.getElem?_cons_zero]; rfl
        go_simp
        refine hK.out _ _ (hHa.alloc _) (fun hH' => ?_)
        clear hK K hH
        have hH := hH'
        clear hH'
        try simp only [Act.put, List.setIfInBounds_toArray, List.set_cons_zero, List.set_cons_succ]
        refine wpAnyH_ready (rs := [5]) (by kernel_rfl) (by simp) ?_
        refine AllReadyH.cons (o := ?o5c2) ?h5c2 (fun K hK => ?_) AllReadyH.nil
        case h5c2 => simp only [List.getElem?_toArray, List.getElem?_cons_succ, List.getElem?_cons_zero]; rfl
        go_simp
        refine hK.out _ _ (hHa.alloc _) (fun hH' => ?_)
        clear hK K hH
        have hH := hH'
        clear hH'
        try simp only [Act.put, List.setIfInBounds_toArray, List.set_cons_zero, List.set_cons_succ]
        refine wpAnyH_done (by kernel_rfl) ?_ _
        refine NoPanic.normal ?_
        go_wp2_with fail
        go_meet
        case rel => exact ⟨wb.heap.size, v, rfl, hv, HV', var_new wb v _, hs', hb.trans ((bel1 wb _).mono hb.size)⟩
      case c4b2 =>
        go_simp
        refine hK.out _ _ (hH.alloc _) (fun hH' => ?_)
        clear hK K hH
        have hH := hH'
        clear hH'
        try simp only [Act.put, List.setIfInBounds_toArray, List.set_cons_zero, List.set_cons_succ]
        refine wpAnyH_ready (rs := [3]) (by kernel_rfl) (by simp) ?_
        refine AllReadyH.cons (o := ?o3d2) ?h3d2 (fun K hK => ?_) AllReadyH.nil
        case h3d2 => simp only [List.getElem?_toArray, List.getElem?_cons_succ, List.getElem?_cons_zero]; rfl
        go_simp
        refine (mul_e _ _ hs hx _).mono ?_
        rintro e wb ⟨v, rfl, hv, HV, hb2⟩
        have HV' : Hid (v = pw x0 9) := by unfold Hid; rw [HV.out]; have h1 := HS.out; have h2 := HX.out; rw [h1, h2, pw_mul]
        refine hK.out _ _ (hH.trans hb2) (fun hH' => ?_)
        clear hK K hH
        have hH := hH'
        clear hH'
        try simp only [Act.put, List.setIfInBounds_toArray, List.set_cons_zero, List.set_cons_succ]
        have ON : Hid (Own wb wa.heap.size) := (own_new wa _ _ _ _ _).later hb2
        have hle : W2.heap.size ≤ wa.heap.size := hb1.size
        have hs' : w.heap.size + 1 < wa.heap.size := by omega
        obtain ⟨⟨_, nc0⟩, ⟨_, nc1⟩, ⟨_, nc2⟩, ⟨_, nc3⟩, nf0, nf1, nf2, nf3⟩ := ON.out
        refine wpAnyH_ready (rs := [5]) (by kernel_rfl) (by simp) ?_
        refine AllReadyH.cons (o := ?o5d2) ?h5d2 (fun K hK => ?_) AllReadyH.nil
        case h5d2 => simp only [List.getElem?_toArray, List.getElem?_cons_succ, List.getElem?_cons_zero]; rfl
        go_simp
        refine hK.out _ _ (hH.set4 _ (by exact hle) _ _ _ _) (fun hH' => ?_)
        clear hK K hH
        have hH := hH'
        clear hH'
        try simp only [Act.put, List.setIfInBounds_toArray, List.set_cons_zero, List.set_cons_succ]
        refine wpAnyH_done (by kernel_rfl) ?_ _
        refine NoPanic.normal ?_
        go_wp2_with fail
        go_meet
        case rel => exact ⟨wa.heap.size, v, rfl, hv, HV', var_set wb _ v ON.out, hs', below_set4 (((Below.refl _ _).drew.trans (hb1.mono (Nat.le_refl _))).trans (((bel1 wa _).mono hb1.size).trans (hb2.mono (by simp; exact Nat.le_succ_of_le hb1.size)))) _ (by exact hle) _ _ _ _⟩
    case c4a2 =>
      go_simp
      refine hK.out _ _ (hH.alloc _) (fun hH' => ?_)
      clear hK K hH
      have hH := hH'
      clear hH'
      try simp only [Act.put, List.setIfInBounds_toArray, List.set_cons_zero, List.set_cons_succ]
      refine wpAnyH_ready (rs := [1]) (by kernel_rfl) (by simp) ?_
      refine AllReadyH.cons (o := ?o1e2) ?h1e2 (fun K hK => ?_) AllReadyH.nil
      case h1e2 => simp only [List.getElem?_toArray, List.getElem?_cons_succ, List.getElem?_cons_zero]; rfl
      go_simp
      refine (squared_e x0 2 2 (by decide) v1 hv1 HV1 _).mono ?_
      rintro e wa ⟨s, rfl, hs, HS, hb1⟩
      rw [show 2 * 2 ^ 2 = 8 from by decide] at HS
      refine hK.out _ _ (hH.trans hb1) (fun hH' => ?_)
      clear hK K hH
      have hH := hH'
      clear hH'
      try simp only [Act.put, List.setIfInBounds_toArray, List.set_cons_zero, List.set_cons_succ]
      refine wpAnyH_ready (rs := [3]) (by kernel_rfl) (by simp) ?_
      refine AllReadyH.cons (o := ?o3e2) ?h3e2 (fun K hK => ?_) AllReadyH.nil
      case h3e2 => simp only [List.getElem?_toArray, List.getElem?_cons_succ, List.getElem?_cons_zero]; rfl
      go_simp
      refine (mul_e _ _ hs hx _).mono ?_
      rintro e wb ⟨v, rfl, hv, HV, hb2⟩
      have HV' : Hid (v = pw x0 9) := by unfold Hid; rw [HV.out]; have h1 := HS.out; have h2 := HX.out; rw [h1, h2, pw_mul]
      refine hK.out _ _ (hH.trans hb2) (fun hH' => ?_)
      clear hK K hH
      have hH := hH'
      clear hH'
      try simp only [Act.put, List.setIfInBounds_toArray, List.set_cons_zero, List.set_cons_succ]
      have ON : Hid (Own wb W2.heap.size) := ((own_new W2.drew _ _ _ _ _).later hb1).later hb2
      have hle : W2.heap.size ≤ W2.heap.size := Nat.le_refl _
      have hs' : w.heap.size + 1 < W2.heap.size := by omega
      obtain ⟨⟨_, nc0⟩, ⟨_, nc1⟩, ⟨_, nc2⟩, ⟨_, nc3⟩, nf0, nf1, nf2, nf3⟩ := ON.out
      refine wpAnyH_ready (rs := [5]) (by kernel_rfl) (by simp) ?_
      refine AllReadyH.cons (o := ?o5e2) ?h5e2 (fun K hK => ?_) AllReadyH.nil
      case h5e2 => simp only [List.getElem?_toArray, List.getElem?_cons_succ, List.getElem?_cons_zero]; rfl
      go_simp
      refine hK.out _ _ (hH.set4 _ (by exact hle) _ _ _ _) (fun hH' => ?_)
      clear hK K hH
      have hH := hH'
      clear hH'
      try simp only [Act.put, List.setIfInBounds_toArray, List.set_cons_zero, List.set_cons_succ]
      refine wpAnyH_done (by kernel_rfl) ?_ _
      refine NoPanic.normal ?_
      go_wp2_with fail
      go_meet
      case rel => exact ⟨_, v, rfl, hv, HV', var_set wb _ v ON.out, hs', below_set4 ((Below.refl _ _).drew.trans (((bel1 W2.drew _).trans (hb1.mono (by simp))).trans (hb2.mono (by have := hb1.size; simp at this; exact Nat.le_of_succ_le this)))) _ (by exact hle) _ _ _ _⟩
  obtain ⟨b2, v2, rfl, hv2, HV2, Vm2, hlt2, hb⟩ := hcut
  replace Vm1 : Hid (Var wc (b1) v1) := Vm1.out.later hb.out
  replace OD : Hid (Own wc (w.heap.size + 1)) := OD.out.later hb.out
  replace HB : Hid (Below w.heap.size w wc) := HB.out.trans (hb.out.mono (by omega))
  replace hz : w.heap.size + 1 < wc.heap.size := by have := hb.out.size; omega
  clear hb Va
  generalize wc = W3 at *
  go_upto_region 3 with fail
  go_cut [5] from 14 (fun tv wc => ∃ (b : Nat) (v : Int), tv = .pointer (some ⟨b, 0, none⟩) ∧ El v ∧ Hid (v = pw x0 11) ∧ Hid (Var wc b v) ∧ w.heap.size + 1 < b ∧ Hid (Below W3.heap.size W3 wc))
  case first =>
    obtain ⟨m2c0, m2c1, m2c2, m2c3⟩ := Vm2.out
    obtain ⟨m1c0, m1c1, m1c2, m1c3⟩ := Vm1.out
    go_wp2_with fail
    refine (mul_e _ _ hv2 hv1 _).mono ?_
    rintro e wb ⟨v, rfl, hv, HV, hb⟩
    have HV' : Hid (v = pw x0 11) := by unfold Hid; rw [HV.out]; have h1 := HV2.out; have h2 := HV1.out; rw [h1, h2, pw_mul]
    have hs : w.heap.size + 1 < wb.heap.size := by have := hb.size; omega
    go_wp2_with fail
    go_meet
    case rel => exact ⟨wb.heap.size, v, rfl, hv, HV', var_new wb v _, hs, hb.trans ((bel1 wb _).mono hb.size)⟩
  obtain ⟨b3, v3, rfl, hv3, HV3, Vm3, hlt3, hb⟩ := hcut
  replace Vm2 : Hid (Var wc (b2) v2) := Vm2.out.later hb.out
  replace OD : Hid (Own wc (w.heap.size + 1)) := OD.out.later hb.out
  replace HB : Hid (Below w.heap.size w wc) := HB.out.trans (hb.out.mono (by omega))
  replace hz : w.heap.size + 1 < wc.heap.size := by have := hb.out.size; omega
  clear hb Vm1
  generalize wc = W4 at *
  go_upto_region 4 with fail
  go_cut [6] from 14 (fun tv wc => ∃ (b : Nat) (v : Int), tv = .pointer (some ⟨b, 0, none⟩) ∧ El v ∧ Hid (v = pw x0 31) ∧ Hid (Var wc b v) ∧ w.heap.size + 1 < b ∧ Hid (Below W4.heap.size W4 wc))
  case first =>
    obtain ⟨m3c0, m3c1, m3c2, m3c3⟩ := Vm3.out
    have m3u0 : ∀ u, ExtB (w.heap.size + 1) W4 u → u.cell? ⟨b3, 0, none⟩ = some (.int .u64 (e0 v3)) := fun u hu => hu.cell (by omega) m3c0
    have m3u1 : ∀ u, ExtB (w.heap.size + 1) W4 u → u.cell? ⟨b3, 1, none⟩ = some (.int .u64 (e1 v3)) := fun u hu => hu.cell (by omega) m3c1
    have m3u2 : ∀ u, ExtB (w.heap.size + 1) W4 u → u.cell? ⟨b3, 2, none⟩ = some (.int .u64 (e2 v3)) := fun u hu => hu.cell (by omega) m3c2
    have m3u3 : ∀ u, ExtB (w.heap.size + 1) W4 u → u.cell? ⟨b3, 3, none⟩ = some (.int .u64 (e3 v3)) := fun u hu => hu.cell (by omega) m3c3
    clear m3c0 m3c1 m3c2 m3c3
    obtain ⟨m2c0, m2c1, m2c2, m2c3⟩ := Vm2.out
    have m2u0 : ∀ u, ExtB (w.heap.size + 1) W4 u → u.cell? ⟨b2, 0, none⟩ = some (.int .u64 (e0 v2)) := fun u hu => hu.cell (by omega) m2c0
    have m2u1 : ∀ u, ExtB (w.heap.size + 1) W4 u → u.cell? ⟨b2, 1, none⟩ = some (.int .u64 (e1 v2)) := fun u hu => hu.cell (by omega) m2c1
    have m2u2 : ∀ u, ExtB (w.heap.size + 1) W4 u → u.cell? ⟨b2, 2, none⟩ = some (.int .u64 (e2 v2)) := fun u hu => hu.cell (by omega) m2c2
    have m2u3 : ∀ u, ExtB (w.heap.size + 1) W4 u → u.cell? ⟨b2, 3, none⟩ = some (.int .u64 (e3 v2)) := fun u hu => hu.cell (by omega) m2c3
    clear m2c0 m2c1 m2c2 m2c3
    refine wp_region_noPanic ?_
    refine wp_region_held_drew (S := ExtB (w.heap.size + 1) W4) (by kernel_rfl) (ExtB.refl _ _).drew (fun hH => ?_)
    refine wpAnyH_take (i := 0) (oi := ?o0r4) (v := ?v0r4) ?h0r4 (by kernel_rfl) ?f0r4 ?r0r4 (fun _ _ _ h => h) (Or.inl ⟨?w0r4, ?y0r4⟩) (by assumption) ?t0r4
    case h0r4 => simp only [List.getElem?_toArray, List.getElem?_cons_zero]; rfl
    case f0r4 => kernel_rfl
    case r0r4 => kernel_rfl
    case w0r4 => rfl
    case y0r4 => (intro u hu; (go_simp) <;> with_reducible rfl)
    try simp only [Act.put, List.setIfInBounds_toArray, List.set_cons_zero, List.set_cons_succ]
    refine wpAnyH_take (i := 2) (oi := ?o2r4) (v := ?v2r4) ?h2r4 (by kernel_rfl) ?f2r4 ?r2r4 (fun _ _ _ h => h) (Or.inl ⟨?w2r4, ?y2r4⟩) (by assumption) ?t2r4
    case h2r4 => simp only [List.getElem?_toArray, List.getElem?_cons_succ, List.getElem?_cons_zero]; rfl
    case f2r4 => kernel_rfl
    case r2r4 => kernel_rfl
    case w2r4 => rfl
    case y2r4 => (intro u hu; (go_simp) <;> with_reducible rfl)
    try simp only [Act.put, List.setIfInBounds_toArray, List.set_cons_zero, List.set_cons_succ]
    clear m3u0 m3u1 m3u2 m3u3 m2u0 m2u1 m2u2 m2u3
    refine wpAnyH_ready (rs := [1, 4]) (by kernel_rfl) (by simp) ?_
    refine AllReadyH.cons (o := ?o1a4) ?h1a4 (fun K hK => ?c1a4) (AllReadyH.cons (o := ?o4a4) ?h4a4 (fun K hK => ?c4a4) AllReadyH.nil)
    case h1a4 => simp only [List.getElem?_toArray, List.getElem?_cons_succ, List.getElem?_cons_zero]; rfl
    case h4a4 => simp only [List.getElem?_toArray, List.getElem?_cons_succ, List.getElem?_cons_zero]; rfl
    case c1a4 =>
      go_simp
      refine (squared_e x0 11 1 (by decide) v3 hv3 HV3 _).mono ?_
      rintro e wa ⟨s, rfl, hs, HS, hb1⟩
      rw [show 11 * 2 ^ 1 = 22 from by decide] at HS
      refine hK.out _ _ (hH.trans hb1) (fun hH' => ?_)
      clear hK K hH
      have hH := hH'
      clear hH'
      try simp only [Act.put, List.setIfInBounds_toArray, List.set_cons_zero, List.set_cons_succ]
      refine wpAnyH_ready (rs := [3, 4]) (by kernel_rfl) (by simp) ?_
      refine AllReadyH.cons (o := ?o3b4) ?h3b4 (fun K hK => ?c3b4) (AllReadyH.cons (o := ?o4b4) ?h4b4 (fun K hK => ?c4b4) AllReadyH.nil)
      case h3b4 => simp only [List.getElem?_toArray, List.getElem?_cons_succ, List.getElem?_cons_zero]; rfl
      case h4b4 => simp only [List.getElem?_toArray, List.getElem?_cons_succ, List.getElem?_cons_zero]; rfl
      case c3b4 =>
        go_simp
        refine (mul_e _ _ hs hv2 _).mono ?_
        rintro e wb ⟨v, rfl, hv, HV, hb2⟩
        have HV' : Hid (v = pw x0 31) := by unfold Hid; rw [HV.out]; have h1 := HS.out; have h2 := HV2.out; rw [h1, h2, pw_mul]
        refine hK.out _ _ (hH.trans hb2) (fun hH' => ?_)
        clear hK K hH
        have hH := hH'
        clear hH'
        try simp only [Act.put, List.setIfInBounds_toArray, List.set_cons_zero, List.set_cons_succ]
        have hb : Below W4.heap.size W4 wb := (((Below.refl _ _).drew.trans (hb1.mono (Nat.le_refl _))).trans (hb2.mono hb1.size))
        have hs' : w.heap.size + 1 < wb.heap.size := by have := hb.size; omega
        have hHa := hH
        refine wpAnyH_ready (rs := [4]) (by kernel_rfl) (by simp) ?_
        refine AllReadyH.cons (o := ?o4c4) ?h4c4 (fun K hK => ?_) AllReadyH.nil
        case h4c4 => simp only [List.getElem?_toArray, List.getElem?_cons_succ, List.getElem?_cons_zero]; rfl
        go_simp
        refine hK.out _ _ (hHa.alloc _) (fun hH' => ?_)
        clear hK K hH
        have hH := hH'
        clear hH'
        try simp only [Act.put, List.setIfInBounds_toArray, List.set_cons_zero, List.set_cons_succ]
        refine wpAnyH_ready (rs := [5]) (by kernel_rfl) (by simp) ?_
        refine AllReadyH.cons (o := ?o5c4) ?h5c4 (fun K hK => ?_) AllReadyH.nil
        case h5c4 => simp only [List.getElem?_toArray, List.getElem?_cons_succ, List.getElem?_cons_zero]; rfl
        go_simp
        refine hK.out _ _ (hHa.alloc _) (fun hH' => ?_)
        clear hK K hH
        have hH := hH'
        clear hH'
        try simp only [Act.put, List.setIfInBounds_toArray, List.set_cons_zero, List.set_cons_succ]
        refine wpAnyH_done (by kernel_rfl) ?_ _
        refine NoPanic.normal ?_
        go_wp2_with fail
        go_meet
        case rel => exact ⟨wb.heap.size, v, rfl, hv, HV', var_new wb v _, hs', hb.trans ((bel1 wb _).mono hb.size)⟩
      case c4b4 =>
        go_simp
        refine hK.out _ _ (hH.alloc _) (fun hH' => ?_)
        clear hK K hH
        have hH := hH'
        clear hH'
        try simp only [Act.put, List.setIfInBounds_toArray, List.set_cons_zero, List.set_cons_succ]
        refine wpAnyH_ready (rs := [3]) (by kernel_rfl) (by simp) ?_
        refine AllReadyH.cons (o := ?o3d4) ?h3d4 (fun K hK => ?_) AllReadyH.nil
        case h3d4 => simp only [List.getElem?_toArray, List.getElem?_cons_succ, List.getElem?_cons_zero]; rfl
        go_simp
        refine (mul_e _ _ hs hv2 _).mono ?_
        rintro e wb ⟨v, rfl, hv, HV, hb2⟩
        have HV' : Hid (v = pw x0 31) := by unfold Hid; rw [HV.out]; have h1 := HS.out; have h2 := HV2.out; rw [h1, h2, pw_mul]
        refine hK.out _ _ (hH.trans hb2) (fun hH' => ?_)
        clear hK K hH
        have hH := hH'
        clear hH'
        try simp only [Act.put, List.setIfInBounds_toArray, List.set_cons_zero, List.set_cons_succ]
        have ON : Hid (Own wb wa.heap.size) := (own_new wa _ _ _ _ _).later hb2
        have hle : W4.heap.size ≤ wa.heap.size := hb1.size
        have hs' : w.heap.size + 1 < wa.heap.size := by omega
        obtain ⟨⟨_, nc0⟩, ⟨_, nc1⟩, ⟨_, nc2⟩, ⟨_, nc3⟩, nf0, nf1, nf2, nf3⟩ := ON.out
        refine wpAnyH_ready (rs := [5]) (by kernel_rfl) (by simp) ?_
        refine AllReadyH.cons (o := ?o5d4) ?h5d4 (fun K hK => ?_) AllReadyH.nil
        case h5d4 => simp only [List.getElem?_toArray, List.getElem?_cons_succ, List.getElem?_cons_zero]; rfl
        go_simp
        refine hK.out _ _ (hH.set4 _ (by exact hle) _ _ _ _) (fun hH' => ?_)
        clear hK K hH
        have hH := hH'
        clear hH'
        try simp only [Act.put, List.setIfInBounds_toArray, List.set_cons_zero, List.set_cons_succ]
        refine wpAnyH_done (by kernel_rfl) ?_ _
        refine NoPanic.normal ?_
        go_wp2_with fail
        go_meet
        case rel => exact ⟨wa.heap.size, v, rfl, hv, HV', var_set wb _ v ON.out, hs', below_set4 (((Below.refl _ _).drew.trans (hb1.mono (Nat.le_refl _))).trans (((bel1 wa _).mono hb1.size).trans (hb2.mono (by simp; exact Nat.le_succ_of_le hb1.size)))) _ (by exact hle) _ _ _ _⟩
    case c4a4 =>
      go_simp
      refine hK.out _ _ (hH.alloc _) (fun hH' => ?_)
      clear hK K hH
      have hH := hH'
      clear hH'
      try simp only [Act.put, List.setIfInBounds_toArray, List.set_cons_zero, List.set_cons_succ]
      refine wpAnyH_ready (rs := [1]) (by kernel_rfl) (by simp) ?_
      refine AllReadyH.cons (o := ?o1e4) ?h1e4 (fun K hK => ?_) AllReadyH.nil
      case h1e4 => simp only [List.getElem?_toArray, List.getElem?_cons_succ, List.getElem?_cons_zero]; rfl
      go_simp
      refine (squared_e x0 11 1 (by decide) v3 hv3 HV3 _).mono ?_
      rintro e wa ⟨s, rfl, hs, HS, hb1⟩
      rw [show 11 * 2 ^ 1 = 22 from by decide] at HS
      refine hK.out _ _ (hH.trans hb1) (fun hH' => ?_)
      clear hK K hH
      have hH := hH'
      clear hH'
      try simp only [Act.put, List.setIfInBounds_toArray, List.set_cons_zero, List.set_cons_succ]
      refine wpAnyH_ready (rs := [3]) (by kernel_rfl) (by simp) ?_
      refine AllReadyH.cons (o := ?o3e4) ?h3e4 (fun K hK => ?_) AllReadyH.nil
      case h3e4 => simp only [List.getElem?_toArray, List.getElem?_cons_succ, List.getElem?_cons_zero]; rfl
      go_simp
      refine (mul_e _ _ hs hv2 _).mono ?_
      rintro e wb ⟨v, rfl, hv, HV, hb2⟩
      have HV' : Hid (v = pw x0 31) := by unfold Hid; rw [HV.out]; have h1 := HS.out; have h2 := HV2.out; rw [h1, h2, pw_mul]
      refine hK.out _ _ (hH.trans hb2) (fun hH' => ?_)
      clear hK K hH
      have hH := hH'
      clear hH'
      try simp only [Act.put, List.setIfInBounds_toArray, List.set_cons_zero, List.set_cons_succ]
      have ON : Hid (Own wb W4.heap.size) := ((own_new W4.drew _ _ _ _ _).later hb1).later hb2
      have hle : W4.heap.size ≤ W4.heap.size := Nat.le_refl _
      have hs' : w.heap.size + 1 < W4.heap.size := by omega
      obtain ⟨⟨_, nc0⟩, ⟨_, nc1⟩, ⟨_, nc2⟩, ⟨_, nc3⟩, nf0, nf1, nf2, nf3⟩ := ON.out
      refine wpAnyH_ready (rs := [5]) (by kernel_rfl) (by simp) ?_
      refine AllReadyH.cons (o := ?o5e4) ?h5e4 (fun K hK => ?_) AllReadyH.nil
      case h5e4 => simp only [List.getElem?_toArray, List.getElem?_cons_succ, List.getElem?_cons_zero]; rfl
      go_simp
      refine hK.out _ _ (hH.set4 _ (by exact hle) _ _ _ _) (fun hH' => ?_)
      clear hK K hH
      have hH := hH'
      clear hH'
      try simp only [Act.put, List.setIfInBounds_toArray, List.set_cons_zero, List.set_cons_succ]
      refine wpAnyH_done (by kernel_rfl) ?_ _
      refine NoPanic.normal ?_
      go_wp2_with fail
      go_meet
      case rel => exact ⟨_, v, rfl, hv, HV', var_set wb _ v ON.out, hs', below_set4 ((Below.refl _ _).drew.trans (((bel1 W4.drew _).trans (hb1.mono (by simp))).trans (hb2.mono (by have := hb1.size; simp at this; exact Nat.le_of_succ_le this)))) _ (by exact hle) _ _ _ _⟩
  obtain ⟨b4, v4, rfl, hv4, HV4, Vm4, hlt4, hb⟩ := hcut
  replace Vm3 : Hid (Var wc (b3) v3) := Vm3.out.later hb.out
  replace OD : Hid (Own wc (w.heap.size + 1)) := OD.out.later hb.out
  replace HB : Hid (Below w.heap.size w wc) := HB.out.trans (hb.out.mono (by omega))
  replace hz : w.heap.size + 1 < wc.heap.size := by have := hb.out.size; omega
  clear hb Vm2
  generalize wc = W5 at *
  go_upto_region 5 with fail
  go_cut [7] from 14 (fun tv wc => ∃ (b : Nat) (v : Int), tv = .pointer (some ⟨b, 0, none⟩) ∧ El v ∧ Hid (v = pw x0 1023) ∧ Hid (Var wc b v) ∧ w.heap.size + 1 < b ∧ Hid (Below W5.heap.size W5 wc))
  case first =>
    obtain ⟨m4c0, m4c1, m4c2, m4c3⟩ := Vm4.out
    have m4u0 : ∀ u, ExtB (w.heap.size + 1) W5 u → u.cell? ⟨b4, 0, none⟩ = some (.int .u64 (e0 v4)) := fun u hu => hu.cell (by omega) m4c0
    have m4u1 : ∀ u, ExtB (w.heap.size + 1) W5 u → u.cell? ⟨b4, 1, none⟩ = some (.int .u64 (e1 v4)) := fun u hu => hu.cell (by omega) m4c1
    have m4u2 : ∀ u, ExtB (w.heap.size + 1) W5 u → u.cell? ⟨b4, 2, none⟩ = some (.int .u64 (e2 v4)) := fun u hu => hu.cell (by omega) m4c2
    have m4u3 : ∀ u, ExtB (w.heap.size + 1) W5 u → u.cell? ⟨b4, 3, none⟩ = some (.int .u64 (e3 v4)) := fun u hu => hu.cell (by omega) m4c3
    clear m4c0 m4c1 m4c2 m4c3
    refine wp_region_noPanic ?_
    refine wp_region_held_drew (S := ExtB (w.heap.size + 1) W5) (by kernel_rfl) (ExtB.refl _ _).drew (fun hH => ?_)
    refine wpAnyH_take (i := 0) (oi := ?o0r5) (v := ?v0r5) ?h0r5 (by kernel_rfl) ?f0r5 ?r0r5 (fun _ _ _ h => h) (Or.inl ⟨?w0r5, ?y0r5⟩) (by assumption) ?t0r5
    case h0r5 => simp only [List.getElem?_toArray, List.getElem?_cons_zero]; rfl
    case f0r5 => kernel_rfl
    case r0r5 => kernel_rfl
    case w0r5 => rfl
    case y0r5 => (intro u hu; (go_simp) <;> with_reducible rfl)
    try simp only [Act.put, List.setIfInBounds_toArray, List.set_cons_zero, List.set_cons_succ]
    refine wpAnyH_take (i := 2) (oi := ?o2r5) (v := ?v2r5) ?h2r5 (by kernel_rfl) ?f2r5 ?r2r5 (fun _ _ _ h => h) (Or.inl ⟨?w2r5, ?y2r5⟩) (by assumption) ?t2r5
    case h2r5 => simp only [List.getElem?_toArray, List.getElem?_cons_succ, List.getElem?_cons_zero]; rfl
    case f2r5 => kernel_rfl
    case r2r5 => kernel_rfl
    case w2r5 => rfl
    case y2r5 => (intro u hu; (go_simp) <;> with_reducible rfl)
    try simp only [Act.put, List.setIfInBounds_toArray, List.set_cons_zero, List.set_cons_succ]
    clear m4u0 m4u1 m4u2 m4u3
    refine wpAnyH_ready (rs := [1, 4]) (by kernel_rfl) (by simp) ?_
    refine AllReadyH.cons (o := ?o1a5) ?h1a5 (fun K hK => ?c1a5) (AllReadyH.cons (o := ?o4a5) ?h4a5 (fun K hK => ?c4a5) AllReadyH.nil)
    case h1a5 => simp only [List.getElem?_toArray, List.getElem?_cons_succ, List.getElem?_cons_zero]; rfl
    case h4a5 => simp only [List.getElem?_toArray, List.getElem?_cons_succ, List.getElem?_cons_zero]; rfl
    case c1a5 =>
      go_simp
      refine (squared_e x0 31 5 (by decide) v4 hv4 HV4 _).mono ?_
      rintro e wa ⟨s, rfl, hs, HS, hb1⟩
      rw [show 31 * 2 ^ 5 = 992 from by decide] at HS
      refine hK.out _ _ (hH.trans hb1) (fun hH' => ?_)
      clear hK K hH
      have hH := hH'
      clear hH'
      try simp only [Act.put, List.setIfInBounds_toArray, List.set_cons_zero, List.set_cons_succ]
      refine wpAnyH_ready (rs := [3, 4]) (by kernel_rfl) (by simp) ?_
      refine AllReadyH.cons (o := ?o3b5) ?h3b5 (fun K hK => ?c3b5) (AllReadyH.cons (o := ?o4b5) ?h4b5 (fun K hK => ?c4b5) AllReadyH.nil)
      case h3b5 => simp only [List.getElem?_toArray, List.getElem?_cons_succ, List.getElem?_cons_zero]; rfl
      case h4b5 => simp only [List.getElem?_toArray, List.getElem?_cons_succ, List.getElem?_cons_zero]; rfl
      case c3b5 =>
        go_simp
        refine (mul_e _ _ hs hv4 _).mono ?_
        rintro e wb ⟨v, rfl, hv, HV, hb2⟩
        have HV' : Hid (v = pw x0 1023) := by unfold Hid; rw [HV.out]; have h1 := HS.out; have h2 := HV4.out; rw [h1, h2, pw_mul]
        refine hK.out _ _ (hH.trans hb2) (fun hH' => ?_)
        clear hK K hH
        have hH := hH'
        clear hH'
        try simp only [Act.put, List.setIfInBounds_toArray, List.set_cons_zero, List.set_cons_succ]
        have hb : Below W5.heap.size W5 wb := (((Below.refl _ _).drew.trans (hb1.mono (Nat.le_refl _))).trans (hb2.mono hb1.size))
        have hs' : w.heap.size + 1 < wb.heap.size := by have := hb.size; omega
        have hHa := hH
        refine wpAnyH_ready (rs := [4]) (by kernel_rfl) (by simp) ?_
        refine AllReadyH.cons (o := ?o4c5) ?h4c5 (fun K hK => ?_) AllReadyH.nil
        case h4c5 => simp only [List.getElem?_toArray, List.getElem?_cons_succ, List.getElem?_cons_zero]; rfl
        go_simp
        refine hK.out _ _ (hHa.alloc _) (fun hH' => ?_)
        clear hK K hH
        have hH := hH'
        clear hH'
        try simp only [Act.put, List.setIfInBounds_toArray, List.set_cons_zero, List.set_cons_succ]
        refine wpAnyH_ready (rs := [5]) (by kernel_rfl) (by simp) ?_
        refine AllReadyH.cons (o := ?o5c5) ?h5c5 (fun K hK => ?_) AllReadyH.nil
        case h5c5 => simp only [List.getElem?_toArray, List.getElem?_cons_succ, List.getElem?_cons_zero]; rfl
        go_simp
        refine hK.out _ _ (hHa.alloc _) (fun hH' => ?_)
        clear hK K hH
        have hH := hH'
        clear hH'
        try simp only [Act.put, List.setIfInBounds_toArray, List.set_cons_zero, List.set_cons_succ]
        refine wpAnyH_done (by kernel_rfl) ?_ _
        refine NoPanic.normal ?_
        go_wp2_with fail
        go_meet
        case rel => exact ⟨wb.heap.size, v, rfl, hv, HV', var_new wb v _, hs', hb.trans ((bel1 wb _).mono hb.size)⟩
      case c4b5 =>
        go_simp
        refine hK.out _ _ (hH.alloc _) (fun hH' => ?_)
        clear hK K hH
        have hH := hH'
        clear hH'
        try simp only [Act.put, List.setIfInBounds_toArray, List.set_cons_zero, List.set_cons_succ]
        refine wpAnyH_ready (rs := [3]) (by kernel_rfl) (by simp) ?_
        refine AllReadyH.cons (o := ?o3d5) ?h3d5 (fun K hK => ?_) AllReadyH.nil
        case h3d5 => simp only [List.getElem?_toArray, List.getElem?_cons_succ, List.getElem?_cons_zero]; rfl
        go_simp
        refine (mul_e _ _ hs hv4 _).mono ?_
        rintro e wb ⟨v, rfl, hv, HV, hb2⟩
        have HV' : Hid (v = pw x0 1023) := by unfold Hid; rw [HV.out]; have h1 := HS.out; have h2 := HV4.out; rw [h1, h2, pw_mul]
        refine hK.out _ _ (hH.trans hb2) (fun hH' => ?_)
        clear hK K hH
        have hH := hH'
        clear hH'
        try simp only [Act.put, List.setIfInBounds_toArray, List.set_cons_zero, List.set_cons_succ]
        have ON : Hid (Own wb wa.heap.size) := (own_new wa _ _ _ _ _).later hb2
        have hle : W5.heap.size ≤ wa.heap.size := hb1.size
        have hs' : w.heap.size + 1 < wa.heap.size := by omega
        obtain ⟨⟨_, nc0⟩, ⟨_, nc1⟩, ⟨_, nc2⟩, ⟨_, nc3⟩, nf0, nf1, nf2, nf3⟩ := ON.out
        refine wpAnyH_ready (rs := [5]) (by kernel_rfl) (by simp) ?_
        refine AllReadyH.cons (o := ?o5d5) ?h5d5 (fun K hK => ?_) AllReadyH.nil
        case h5d5 => simp only [List.getElem?_toArray, List.getElem?_cons_succ, List.getElem?_cons_zero]; rfl
        go_simp
        refine hK.out _ _ (hH.set4 _ (by exact hle) _ _ _ _) (fun hH' => ?_)
        clear hK K hH
        have hH := hH'
        clear hH'
        try simp only [Act.put, List.setIfInBounds_toArray, List.set_cons_zero, List.set_cons_succ]
        refine wpAnyH_done (by kernel_rfl) ?_ _
        refine NoPanic.normal ?_
        go_wp2_with fail
        go_meet
        case rel => exact ⟨wa.heap.size, v, rfl, hv, HV', var_set wb _ v ON.out, hs', below_set4 (((Below.refl _ _).drew.trans (hb1.mono (Nat.le_refl _))).trans (((bel1 wa _).mono hb1.size).trans (hb2.mono (by simp; exact Nat.le_succ_of_le hb1.size)))) _ (by exact hle) _ _ _ _⟩
    case c4a5 =>
      go_simp
      refine hK.out _ _ (hH.alloc _) (fun hH' => ?_)
      clear hK K hH
      have hH := hH'
      clear hH'
      try simp only [Act.put, List.setIfInBounds_toArray, List.set_cons_zero, List.set_cons_succ]
      refine wpAnyH_ready (rs := [1]) (by kernel_rfl) (by simp) ?_
      refine AllReadyH.cons (o := ?o1e5) ?h1e5 (fun K hK => ?_) AllReadyH.nil
      case h1e5 => simp only [List.getElem?_toArray, List.getElem?_cons_succ, List.getElem?_cons_zero]; rfl
      go_simp
      refine (squared_e x0 31 5 (by decide) v4 hv4 HV4 _).mono ?_
      rintro e wa ⟨s, rfl, hs, HS, hb1⟩
      rw [show 31 * 2 ^ 5 = 992 from by decide] at HS
      refine hK.out _ _ (hH.trans hb1) (fun hH' => ?_)
      clear hK K hH
      have hH := hH'
      clear hH'
      try simp only [Act.put, List.setIfInBounds_toArray, List.set_cons_zero, List.set_cons_succ]
      refine wpAnyH_ready (rs := [3]) (by kernel_rfl) (by simp) ?_
      refine AllReadyH.cons (o := ?o3e5) ?h3e5 (fun K hK => ?_) AllReadyH.nil
      case h3e5 => simp only [List.getElem?_toArray, List.getElem?_cons_succ, List.getElem?_cons_zero]; rfl
      go_simp
      refine (mul_e _ _ hs hv4 _).mono ?_
      rintro e wb ⟨v, rfl, hv, HV, hb2⟩
      have HV' : Hid (v = pw x0 1023) := by unfold Hid; rw [HV.out]; have h1 := HS.out; have h2 := HV4.out; rw [h1, h2, pw_mul]
      refine hK.out _ _ (hH.trans hb2) (fun hH' => ?_)
      clear hK K hH
      have hH := hH'
      clear hH'
      try simp only [Act.put, List.setIfInBounds_toArray, List.set_cons_zero, List.set_cons_succ]
      have ON : Hid (Own wb W5.heap.size) := ((own_new W5.drew _ _ _ _ _).later hb1).later hb2
      have hle : W5.heap.size ≤ W5.heap.size := Nat.le_refl _
      have hs' : w.heap.size + 1 < W5.heap.size := by omega
      obtain ⟨⟨_, nc0⟩, ⟨_, nc1⟩, ⟨_, nc2⟩, ⟨_, nc3⟩, nf0, nf1, nf2, nf3⟩ := ON.out
      refine wpAnyH_ready (rs := [5]) (by kernel_rfl) (by simp) ?_
      refine AllReadyH.cons (o := ?o5e5) ?h5e5 (fun K hK => ?_) AllReadyH.nil
      case h5e5 => simp only [List.getElem?_toArray, List.getElem?_cons_succ, List.getElem?_cons_zero]; rfl
      go_simp
      refine hK.out _ _ (hH.set4 _ (by exact hle) _ _ _ _) (fun hH' => ?_)
      clear hK K hH
      have hH := hH'
      clear hH'
      try simp only [Act.put, List.setIfInBounds_toArray, List.set_cons_zero, List.set_cons_succ]
      refine wpAnyH_done (by kernel_rfl) ?_ _
      refine NoPanic.normal ?_
      go_wp2_with fail
      go_meet
      case rel => exact ⟨_, v, rfl, hv, HV', var_set wb _ v ON.out, hs', below_set4 ((Below.refl _ _).drew.trans (((bel1 W5.drew _).trans (hb1.mono (by simp))).trans (hb2.mono (by have := hb1.size; simp at this; exact Nat.le_of_succ_le this)))) _ (by exact hle) _ _ _ _⟩
  obtain ⟨b5, v5, rfl, hv5, HV5, Vm5, hlt5, hb⟩ := hcut
  replace Vm3 : Hid (Var wc (b3) v3) := Vm3.out.later hb.out
  replace OD : Hid (Own wc (w.heap.size + 1)) := OD.out.later hb.out
  replace HB : Hid (Below w.heap.size w wc) := HB.out.trans (hb.out.mono (by omega))
  replace hz : w.heap.size + 1 < wc.heap.size := by have := hb.out.size; omega
  clear hb Vm4
  generalize wc = W6 at *
  go_upto_region 6 with fail
  go_cut [8] from 14 (fun tv wc => ∃ (b : Nat) (v : Int), tv = .pointer (some ⟨b, 0, none⟩) ∧ El v ∧ Hid (v = pw x0 1048575) ∧ Hid (Var wc b v) ∧ w.heap.size + 1 < b ∧ Hid (Below W6.heap.size W6 wc))
  case first =>
    obtain ⟨m5c0, m5c1, m5c2, m5c3⟩ := Vm5.out
    have m5u0 : ∀ u, ExtB (w.heap.size + 1) W6 u → u.cell? ⟨b5, 0, none⟩ = some (.int .u64 (e0 v5)) := fun u hu => hu.cell (by omega) m5c0
    have m5u1 : ∀ u, ExtB (w.heap.size + 1) W6 u → u.cell? ⟨b5, 1, none⟩ = some (.int .u64 (e1 v5)) := fun u hu => hu.cell (by omega) m5c1
    have m5u2 : ∀ u, ExtB (w.heap.size + 1) W6 u → u.cell? ⟨b5, 2, none⟩ = some (.int .u64 (e2 v5)) := fun u hu => hu.cell (by omega) m5c2
    have m5u3 : ∀ u, ExtB (w.heap.size + 1) W6 u → u.cell? ⟨b5, 3, none⟩ = some (.int .u64 (e3 v5)) := fun u hu => hu.cell (by omega) m5c3
    clear m5c0 m5c1 m5c2 m5c3
    refine wp_region_noPanic ?_
    refine wp_region_held_drew (S := ExtB (w.heap.size + 1) W6) (by kernel_rfl) (ExtB.refl _ _).drew (fun hH => ?_)
    refine wpAnyH_take (i := 0) (oi := ?o0r6) (v := ?v0r6) ?h0r6 (by kernel_rfl) ?f0r6 ?r0r6 (fun _ _ _ h => h) (Or.inl ⟨?w0r6, ?y0r6⟩) (by assumption) ?t0r6
    case h0r6 => simp only [List.getElem?_toArray, List.getElem?_cons_zero]; rfl
    case f0r6 => kernel_rfl
    case r0r6 => kernel_rfl
    case w0r6 => rfl
    case y0r6 => (intro u hu; (go_simp) <;> with_reducible rfl)
    try simp only [Act.put, List.setIfInBounds_toArray, List.set_cons_zero, List.set_cons_succ]
    refine wpAnyH_take (i := 2) (oi := ?o2r6) (v := ?v2r6) ?h2r6 (by kernel_rfl) ?f2r6 ?r2r6 (fun _ _ _ h => h) (Or.inl ⟨?w2r6, ?y2r6⟩) (by assumption) ?t2r6
    case h2r6 => simp only [List.getElem?_toArray, List.getElem?_cons_succ, List.getElem?_cons_zero]; rfl
    case f2r6 => kernel_rfl
    case r2r6 => kernel_rfl
    case w2r6 => rfl
    case y2r6 => (intro u hu; (go_simp) <;> with_reducible rfl)
    try simp only [Act.put, List.setIfInBounds_toArray, List.set_cons_zero, List.set_cons_succ]
    clear m5u0 m5u1 m5u2 m5u3
    refine wpAnyH_ready (rs := [1, 4]) (by kernel_rfl) (by simp) ?_
    refine AllReadyH.cons (o := ?o1a6) ?h1a6 (fun K hK => ?c1a6) (AllReadyH.cons (o := ?o4a6) ?h4a6 (fun K hK => ?c4a6) AllReadyH.nil)
    case h1a6 => simp only [List.getElem?_toArray, List.getElem?_cons_succ, List.getElem?_cons_zero]; rfl
    case h4a6 => simp only [List.getElem?_toArray, List.getElem?_cons_succ, List.getElem?_cons_zero]; rfl
    case c1a6 =>
      go_simp
      refine (squared_e x0 1023 10 (by decide) v5 hv5 HV5 _).mono ?_
      rintro e wa ⟨s, rfl, hs, HS, hb1⟩
      rw [show 1023 * 2 ^ 10 = 1047552 from by decide] at HS
      refine hK.out _ _ (hH.trans hb1) (fun hH' => ?_)
      clear hK K hH
      have hH := hH'
      clear hH'
      try simp only [Act.put, List.setIfInBounds_toArray, List.set_cons_zero, List.set_cons_succ]
      refine wpAnyH_ready (rs := [3, 4]) (by kernel_rfl) (by simp) ?_
      refine AllReadyH.cons (o := ?o3b6) ?h3b6 (fun K hK => ?c3b6) (AllReadyH.cons (o := ?o4b6) ?h4b6 (fun K hK => ?c4b6) AllReadyH.nil)
      case h3b6 => simp only [List.getElem?_toArray, List.getElem?_cons_succ, List.getElem?_cons_zero]; rfl
      case h4b6 => simp only [List.getElem?_toArray, List.getElem?_cons_succ, List.getElem?_cons_zero]; rfl
      case c3b6 =>
        go_simp
        refine (mul_e _ _ hs hv5 _).mono ?_
        rintro e wb ⟨v, rfl, hv, HV, hb2⟩
        have HV' : Hid (v = pw x0 1048575) := by unfold Hid; rw [HV.out]; have h1 := HS.out; have h2 := HV5.out; rw [h1, h2, pw_mul]
        refine hK.out _ _ (hH.trans hb2) (fun hH' => ?_)
        clear hK K hH
        have hH := hH'
        clear hH'
        try simp only [Act.put, List.setIfInBounds_toArray, List.set_cons_zero, List.set_cons_succ]
        have hb : Below W6.heap.size W6 wb := (((Below.refl _ _).drew.trans (hb1.mono (Nat.le_refl _))).trans (hb2.mono hb1.size))
        have hs' : w.heap.size + 1 < wb.heap.size := by have := hb.size; omega
        have hHa := hH
        refine wpAnyH_ready (rs := [4]) (by kernel_rfl) (by simp) ?_
        refine AllReadyH.cons (o := ?o4c6) ?h4c6 (fun K hK => ?_) AllReadyH.nil
        case h4c6 => simp only [List.getElem?_toArray, List.getElem?_cons_succ, List.getElem?_cons_zero]; rfl
        go_simp
        refine hK.out _ _ (hHa.alloc _) (fun hH' => ?_)
        clear hK K hH
        have hH := hH'
        clear hH'
        try simp only [Act.put, List.setIfInBounds_toArray, List.set_cons_zero, List.set_cons_succ]
        refine wpAnyH_ready (rs := [5]) (by kernel_rfl) (by simp) ?_
        refine AllReadyH.cons (o := ?o5c6) ?h5c6 (fun K hK => ?_) AllReadyH.nil
        case h5c6 => simp only [List.getElem?_toArray, List.getElem?_cons_succ, List.getElem?_cons_zero]; rfl
        go_simp
        refine hK.out _ _ (hHa.alloc _) (fun hH' => ?_)
        clear hK K hH
        have hH := hH'
        clear hH'
        try simp only [Act.put, List.setIfInBounds_toArray, List.set_cons_zero, List.set_cons_succ]
        refine wpAnyH_done (by kernel_rfl) ?_ _
        refine NoPanic.normal ?_
        go_wp2_with fail
        go_meet
        case rel => exact ⟨wb.heap.size, v, rfl, hv, HV', var_new wb v _, hs', hb.trans ((bel1 wb _).mono hb.size)⟩
      case c4b6 =>
        go_simp
        refine hK.out _ _ (hH.alloc _) (fun hH' => ?_)
        clear hK K hH
        have hH := hH'
        clear hH'
        try simp only [Act.put, List.setIfInBounds_toArray, List.set_cons_zero, List.set_cons_succ]
        refine wpAnyH_ready (rs := [3]) (by kernel_rfl) (by simp) ?_
        refine AllReadyH.cons (o := ?o3d6) ?h3d6 (fun K hK => ?_) AllReadyH.nil
        case h3d6 => simp only [List.getElem?_toArray, List.getElem?_cons_succ, List.getElem?_cons_zero]; rfl
        go_simp
        refine (mul_e _ _ hs hv5 _).mono ?_
        rintro e wb ⟨v, rfl, hv, HV, hb2⟩
        have HV' : Hid (v = pw x0 1048575) := by unfold Hid; rw [HV.out]; have h1 := HS.out; have h2 := HV5.out; rw [h1, h2, pw_mul]
        refine hK.out _ _ (hH.trans hb2) (fun hH' => ?_)
        clear hK K hH
        have hH := hH'
        clear hH'
        try simp only [Act.put, List.setIfInBounds_toArray, List.set_cons_zero, List.set_cons_succ]
        have ON : Hid (Own wb wa.heap.size) := (own_new wa _ _ _ _ _).later hb2
        have hle : W6.heap.size ≤ wa.heap.size := hb1.size
        have hs' : w.heap.size + 1 < wa.heap.size := by omega
        obtain ⟨⟨_, nc0⟩, ⟨_, nc1⟩, ⟨_, nc2⟩, ⟨_, nc3⟩, nf0, nf1, nf2, nf3⟩ := ON.out
        refine wpAnyH_ready (rs := [5]) (by kernel_rfl) (by simp) ?_
        refine AllReadyH.cons (o := ?o5d6) ?h5d6 (fun K hK => ?_) AllReadyH.nil
        case h5d6 => simp only [List.getElem?_toArray, List.getElem?_cons_succ, List.getElem?_cons_zero]; rfl
        go_simp
        refine hK.out _ _ (hH.set4 _ (by exact hle) _ _ _ _) (fun hH' => ?_)
        clear hK K hH
        have hH := hH'
        clear hH'
        try simp only [Act.put, List.setIfInBounds_toArray, List.set_cons_zero, List.set_cons_succ]
        refine wpAnyH_done (by kernel_rfl) ?_ _
        refine NoPanic.normal ?_
        go_wp2_with fail
        go_meet
        case rel => exact ⟨wa.heap.size, v, rfl, hv, HV', var_set wb _ v ON.out, hs', below_set4 (((Below.refl _ _).drew.trans (hb1.mono (Nat.le_refl _))).trans (((bel1 wa _).mono hb1.size).trans (hb2.mono (by simp; exact Nat.le_succ_of_le hb1.size)))) _ (by exact hle) _ _ _ _⟩
    case c4a6 =>
      go_simp
      refine hK.out _ _ (hH.alloc _) (fun hH' => ?_)
      clear hK K hH
      have hH := hH'
      clear hH'
      try simp only [Act.put, List.setIfInBounds_toArray, List.set_cons_zero, List.set_cons_succ]
      refine wpAnyH_ready (rs := [1]) (by kernel_rfl) (by simp) ?_
      refine AllReadyH.cons (o := ?o1e6) ?h1e6 (fun K hK => ?_) AllReadyH.nil
      case h1e6 => simp only [List.getElem?_toArray, List.getElem?_cons_succ, List.getElem?_cons_zero]; rfl
      go_simp
      refine (squared_e x0 1023 10 (by decide) v5 hv5 HV5 _).mono ?_
      rintro e wa ⟨s, rfl, hs, HS, hb1⟩
      rw [show 1023 * 2 ^ 10 = 1047552 from by decide] at HS
      refine hK.out _ _ (hH.trans hb1) (fun hH' => ?_)
      clear hK K hH
      have hH := hH'
      clear hH'
      try simp only [Act.put, List.setIfInBounds_toArray, List.set_cons_zero, List.set_cons_succ]
      refine wpAnyH_ready (rs := [3]) (by kernel_rfl) (by simp) ?_
      refine AllReadyH.cons (o := ?o3e6) ?h3e6 (fun K hK => ?_) AllReadyH.nil
      case h3e6 => simp only [List.getElem?_toArray, List.getElem?_cons_succ, List.getElem?_cons_zero]; rfl
      go_simp
      refine (mul_e _ _ hs hv5 _).mono ?_
      rintro e wb ⟨v, rfl, hv, HV, hb2⟩
      have HV' : Hid (v = pw x0 1048575) := by unfold Hid; rw [HV.out]; have h1 := HS.out; have h2 := HV5.out; rw [h1, h2, pw_mul]
      refine hK.out _ _ (hH.trans hb2) (fun hH' => ?_)
      clear hK K hH
      have hH := hH'
      clear hH'
      try simp only [Act.put, List.setIfInBounds_toArray, List.set_cons_zero, List.set_cons_succ]
      have ON : Hid (Own wb W6.heap.size) := ((own_new W6.drew _ _ _ _ _).later hb1).later hb2
      have hle : W6.heap.size ≤ W6.heap.size := Nat.le_refl _
      have hs' : w.heap.size + 1 < W6.heap.size := by omega
      obtain ⟨⟨_, nc0⟩, ⟨_, nc1⟩, ⟨_, nc2⟩, ⟨_, nc3⟩, nf0, nf1, nf2, nf3⟩ := ON.out
      refine wpAnyH_ready (rs := [5]) (by kernel_rfl) (by simp) ?_
      refine AllReadyH.cons (o := ?o5e6) ?h5e6 (fun K hK => ?_) AllReadyH.nil
      case h5e6 => simp only [List.getElem?_toArray, List.getElem?_cons_succ, List.getElem?_cons_zero]; rfl
      go_simp
      refine hK.out _ _ (hH.set4 _ (by exact hle) _ _ _ _) (fun hH' => ?_)
      clear hK K hH
      have hH := hH'
      clear hH'
      try simp only [Act.put, List.setIfInBounds_toArray, List.set_cons_zero, List.set_cons_succ]
      refine wpAnyH_done (by kernel_rfl) ?_ _
      refine NoPanic.normal ?_
      go_wp2_with fail
      go_meet
      case rel => exact ⟨_, v, rfl, hv, HV', var_set wb _ v ON.out, hs', below_set4 ((Below.refl _ _).drew.trans (((bel1 W6.drew _).trans (hb1.mono (by simp))).trans (hb2.mono (by have := hb1.size; simp at this; exact Nat.le_of_succ_le this)))) _ (by exact hle) _ _ _ _⟩
  obtain ⟨b6, v6, rfl, hv6, HV6, Vm6, hlt6, hb⟩ := hcut
  replace Vm3 : Hid (Var wc (b3) v3) := Vm3.out.later hb.out
  replace Vm5 : Hid (Var wc (b5) v5) := Vm5.out.later hb.out
  replace OD : Hid (Own wc (w.heap.size + 1)) := OD.out.later hb.out
  replace HB : Hid (Below w.heap.size w wc) := HB.out.trans (hb.out.mono (by omega))
  replace hz : w.heap.size + 1 < wc.heap.size := by have := hb.out.size; omega
  clear hb 
  generalize wc = W7 at *
  go_upto_region 7 with fail
  go_cut [9] from 14 (fun tv wc => ∃ (b : Nat) (v : Int), tv = .pointer (some ⟨b, 0, none⟩) ∧ El v ∧ Hid (v = pw x0 1099511627775) ∧ Hid (Var wc b v) ∧ w.heap.size + 1 < b ∧ Hid (Below W7.heap.size W7 wc))
  case first =>
    obtain ⟨m6c0, m6c1, m6c2, m6c3⟩ := Vm6.out
    have m6u0 : ∀ u, ExtB (w.heap.size + 1) W7 u → u.cell? ⟨b6, 0, none⟩ = some (.int .u64 (e0 v6)) := fun u hu => hu.cell (by omega) m6c0
    have m6u1 : ∀ u, ExtB (w.heap.size + 1) W7 u → u.cell? ⟨b6, 1, none⟩ = some (.int .u64 (e1 v6)) := fun u hu => hu.cell (by omega) m6c1
    have m6u2 : ∀ u, ExtB (w.heap.size + 1) W7 u → u.cell? ⟨b6, 2, none⟩ = some (.int .u64 (e2 v6)) := fun u hu => hu.cell (by omega) m6c2
    have m6u3 : ∀ u, ExtB (w.heap.size + 1) W7 u → u.cell? ⟨b6, 3, none⟩ = some (.int .u64 (e3 v6)) := fun u hu => hu.cell (by omega) m6c3
    clear m6c0 m6c1 m6c2 m6c3
    refine wp_region_noPanic ?_
    refine wp_region_held_drew (S := ExtB (w.heap.size + 1) W7) (by kernel_rfl) (ExtB.refl _ _).drew (fun hH => ?_)
    refine wpAnyH_take (i := 0) (oi := ?o0r7) (v := ?v0r7) ?h0r7 (by kernel_rfl) ?f0r7 ?r0r7 (fun _ _ _ h => h) (Or.inl ⟨?w0r7, ?y0r7⟩) (by assumption) ?t0r7
    case h0r7 => simp only [List.getElem?_toArray, List.getElem?_cons_zero]; rfl
    case f0r7 => kernel_rfl
    case r0r7 => kernel_rfl
    case w0r7 => rfl
    case y0r7 => (intro u hu; (go_simp) <;> with_reducible rfl)
    try simp only [Act.put, List.setIfInBounds_toArray, List.set_cons_zero, List.set_cons_succ]
    refine wpAnyH_take (i := 2) (oi := ?o2r7) (v := ?v2r7) ?h2r7 (by kernel_rfl) ?f2r7 ?r2r7 (fun _ _ _ h => h) (Or.inl ⟨?w2r7, ?y2r7⟩) (by assumption) ?t2r7
    case h2r7 => simp only [List.getElem?_toArray, List.getElem?_cons_succ, List.getElem?_cons_zero]; rfl
    case f2r7 => kernel_rfl
    case r2r7 => kernel_rfl
    case w2r7 => rfl
    case y2r7 => (intro u hu; (go_simp) <;> with_reducible rfl)
    try simp only [Act.put, List.setIfInBounds_toArray, List.set_cons_zero, List.set_cons_succ]
    clear m6u0 m6u1 m6u2 m6u3
    refine wpAnyH_ready (rs := [1, 4]) (by kernel_rfl) (by simp) ?_
    refine AllReadyH.cons (o := ?o1a7) ?h1a7 (fun K hK => ?c1a7) (AllReadyH.cons (o := ?o4a7) ?h4a7 (fun K hK => ?c4a7) AllReadyH.nil)
    case h1a7 => simp only [List.getElem?_toArray, List.getElem?_cons_succ, List.getElem?_cons_zero]; rfl
    case h4a7 => simp only [List.getElem?_toArray, List.getElem?_cons_succ, List.getElem?_cons_zero]; rfl
    case c1a7 =>
      go_simp
      refine (squared_e x0 1048575 20 (by decide) v6 hv6 HV6 _).mono ?_
      rintro e wa ⟨s, rfl, hs, HS, hb1⟩
      rw [show 1048575 * 2 ^ 20 = 1099510579200 from by decide] at HS
      refine hK.out _ _ (hH.trans hb1) (fun hH' => ?_)
      clear hK K hH
      have hH := hH'
      clear hH'
      try simp only [Act.put, List.setIfInBounds_toArray, List.set_cons_zero, List.set_cons_succ]
      refine wpAnyH_ready (rs := [3, 4]) (by kernel_rfl) (by simp) ?_
      refine AllReadyH.cons (o := ?o3b7) ?h3b7 (fun K hK => ?c3b7) (AllReadyH.cons (o := ?o4b7) ?h4b7 (fun K hK => ?c4b7) AllReadyH.nil)
      case h3b7 => simp only [List.getElem?_toArray, List.getElem?_cons_succ, List.getElem?_cons_zero]; rfl
      case h4b7 => simp only [List.getElem?_toArray, List.getElem?_cons_succ, List.getElem?_cons_zero]; rfl
      case c3b7 =>
        go_simp
        refine (mul_e _ _ hs hv6 _).mono ?_
        rintro e wb ⟨v, rfl, hv, HV, hb2⟩
        have HV' : Hid (v = pw x0 1099511627775) := by unfold Hid; rw [HV.out]; have h1 := HS.out; have h2 := HV6.out; rw [h1, h2, pw_mul]
        refine hK.out _ _ (hH.trans hb2) (fun hH' => ?_)
        clear hK K hH
        have hH := hH'
        clear hH'
        try simp only [Act.put, List.setIfInBounds_toArray, List.set_cons_zero, List.set_cons_succ]
        have hb : Below W7.heap.size W7 wb := (((Below.refl _ _).drew.trans (hb1.mono (Nat.le_refl _))).trans (hb2.mono hb1.size))
        have hs' : w.heap.size + 1 < wb.heap.size := by have := hb.size; omega
        have hHa := hH
        refine wpAnyH_ready (rs := [4]) (by kernel_rfl) (by simp) ?_
        refine AllReadyH.cons (o := ?o4c7) ?h4c7 (fun K hK => ?_) AllReadyH.nil
        case h4c7 => simp only [List.getElem?_toArray, List.getElem?_cons_succ, List.getElem?_cons_zero]; rfl
        go_simp
        refine hK.out _ _ (hHa.alloc _) (fun hH' => ?_)
        clear hK K hH
        have hH := hH'
        clear hH'
        try simp only [Act.put, List.setIfInBounds_toArray, List.set_cons_zero, List.set_cons_succ]
        refine wpAnyH_ready (rs := [5]) (by kernel_rfl) (by simp) ?_
        refine AllReadyH.cons (o := ?o5c7) ?h5c7 (fun K hK => ?_) AllReadyH.nil
        case h5c7 => simp only [List.getElem?_toArray, List.getElem?_cons_succ, List.getElem?_cons_zero]; rfl
        go_simp
        refine hK.out _ _ (hHa.alloc _) (fun hH' => ?_)
        clear hK K hH
        have hH := hH'
        clear hH'
        try simp only [Act.put, List.setIfInBounds_toArray, List.set_cons_zero, List.set_cons_succ]
        refine wpAnyH_done (by kernel_rfl) ?_ _
        refine NoPanic.normal ?_
        go_wp2_with fail
        go_meet
        case rel => exact ⟨wb.heap.size, v, rfl, hv, HV', var_new wb v _, hs', hb.trans ((bel1 wb _).mono hb.size)⟩
      case c4b7 =>
        go_simp
        refine hK.out _ _ (hH.alloc _) (fun hH' => ?_)
        clear hK K hH
        have hH := hH'
        clear hH'
        try simp only [Act.put, List.setIfInBounds_toArray, List.set_cons_zero, List.set_cons_succ]
        refine wpAnyH_ready (rs := [3]) (by kernel_rfl) (by simp) ?_
        refine AllReadyH.cons (o := ?o3d7) ?h3d7 (fun K hK => ?_) AllReadyH.nil
        case h3d7 => simp only [List.getElem?_toArray, List.getElem?_cons_succ, List.getElem?_cons_zero]; rfl
        go_simp
        refine (mul_e _ _ hs hv6 _).mono ?_
        rintro e wb ⟨v, rfl, hv, HV, hb2⟩
        have HV' : Hid (v = pw x0 1099511627775) := by unfold Hid; rw [HV.out]; have h1 := HS.out; have h2 := HV6.out; rw [h1, h2, pw_mul]
        refine hK.out _ _ (hH.trans hb2) (fun hH' => ?_)
        clear hK K hH
        have hH := hH'
        clear hH'
        try simp only [Act.put, List.setIfInBounds_toArray, List.set_cons_zero, List.set_cons_succ]
        have ON : Hid (Own wb wa.heap.size) := (own_new wa _ _ _ _ _).later hb2
        have hle : W7.heap.size ≤ wa.heap.size := hb1.size
        have hs' : w.heap.size + 1 < wa.heap.size := by omega
        obtain ⟨⟨_, nc0⟩, ⟨_, nc1⟩, ⟨_, nc2⟩, ⟨_, nc3⟩, nf0, nf1, nf2, nf3⟩ := ON.out
        refine wpAnyH_ready (rs := [5]) (by kernel_rfl) (by simp) ?_
        refine AllReadyH.cons (o := ?o5d7) ?h5d7 (fun K hK => ?_) AllReadyH.nil
        case h5d7 => simp only [List.getElem?_toArray, List.getElem?_cons_succ, List.getElem?_cons_zero]; rfl
        go_simp
        refine hK.out _ _ (hH.set4 _ (by exact hle) _ _ _ _) (fun hH' => ?_)
        clear hK K hH
        have hH := hH'
        clear hH'
        try simp only [Act.put, List.setIfInBounds_toArray, List.set_cons_zero, List.set_cons_succ]
        refine wpAnyH_done (by kernel_rfl) ?_ _
        refine NoPanic.normal ?_
        go_wp2_with fail
        go_meet
        case rel => exact ⟨wa.heap.size, v, rfl, hv, HV', var_set wb _ v ON.out, hs', below_set4 (((Below.refl _ _).drew.trans (hb1.mono (Nat.le_refl _))).trans (((bel1 wa _).mono hb1.size).trans (hb2.mono (by simp; exact Nat.le_succ_of_le hb1.size)))) _ (by exact hle) _ _ _ _⟩
    case c4a7 =>
      go_simp
      refine hK.out _ _ (hH.alloc _) (fun hH' => ?_)
      clear hK K hH
      have hH := hH'
      clear hH'
      try simp only [Act.put, List.setIfInBounds_toArray, List.set_cons_zero, List.set_cons_succ]
      refine wpAnyH_ready (rs := [1]) (by kernel_rfl) (by simp) ?_
      refine AllReadyH.cons (o := ?o1e7) ?h1e7 (fun K hK => ?_) AllReadyH.nil
      case h1e7 => simp only [List.getElem?_toArray, List.getElem?_cons_succ, List.getElem?_cons_zero]; rfl
      go_simp
      refine (squared_e x0 1048575 20 (by decide) v6 hv6 HV6 _).mono ?_
      rintro e wa ⟨s, rfl, hs, HS, hb1⟩
      rw [show 1048575 * 2 ^ 20 = 1099510579200 from by decide] at HS
      refine hK.out _ _ (hH.trans hb1) (fun hH' => ?_)
      clear hK K hH
      have hH := hH'
      clear hH'
      try simp only [Act.put, List.setIfInBounds_toArray, List.set_cons_zero, List.set_cons_succ]
      refine wpAnyH_ready (rs := [3]) (by kernel_rfl) (by simp) ?_
      refine AllReadyH.cons (o := ?o3e7) ?h3e7 (fun K hK => ?_) AllReadyH.nil
      case h3e7 => simp only [List.getElem?_toArray, List.getElem?_cons_succ, List.getElem?_cons_zero]; rfl
      go_simp
      refine (mul_e _ _ hs hv6 _).mono ?_
      rintro e wb ⟨v, rfl, hv, HV, hb2⟩
      have HV' : Hid (v = pw x0 1099511627775) := by unfold Hid; rw [HV.out]; have h1 := HS.out; have h2 := HV6.out; rw [h1, h2, pw_mul]
      refine hK.out _ _ (hH.trans hb2) (fun hH' => ?_)
      clear hK K hH
      have hH := hH'
      clear hH'
      try simp only [Act.put, List.setIfInBounds_toArray, List.set_cons_zero, List.set_cons_succ]
      have ON : Hid (Own wb W7.heap.size) := ((own_new W7.drew _ _ _ _ _).later hb1).later hb2
      have hle : W7.heap.size ≤ W7.heap.size := Nat.le_refl _
      have hs' : w.heap.size + 1 < W7.heap.size := by omega
      obtain ⟨⟨_, nc0⟩, ⟨_, nc1⟩, ⟨_, nc2⟩, ⟨_, nc3⟩, nf0, nf1, nf2, nf3⟩ := ON.out
      refine wpAnyH_ready (rs := [5]) (by kernel_rfl) (by simp) ?_
      refine AllReadyH.cons (o := ?o5e7) ?h5e7 (fun K hK => ?_) AllReadyH.nil
      case h5e7 => simp only [List.getElem?_toArray, List.getElem?_cons_succ, List.getElem?_cons_zero]; rfl
      go_simp
      refine hK.out _ _ (hH.set4 _ (by exact hle) _ _ _ _) (fun hH' => ?_)
      clear hK K hH
      have hH := hH'
      clear hH'
      try simp only [Act.put, List.setIfInBounds_toArray, List.set_cons_zero, List.set_cons_succ]
      refine wpAnyH_done (by kernel_rfl) ?_ _
      refine NoPanic.normal ?_
      go_wp2_with fail
      go_meet
      case rel => exact ⟨_, v, rfl, hv, HV', var_set wb _ v ON.out, hs', below_set4 ((Below.refl _ _).drew.trans (((bel1 W7.drew _).trans (hb1.mono (by simp))).trans (hb2.mono (by have := hb1.size; simp at this; exact Nat.le_of_succ_le this)))) _ (by exact hle) _ _ _ _⟩
  obtain ⟨b7, v7, rfl, hv7, HV7, Vm7, hlt7, hb⟩ := hcut
  replace Vm3 : Hid (Var wc (b3) v3) := Vm3.out.later hb.out
  replace Vm5 : Hid (Var wc (b5) v5) := Vm5.out.later hb.out
  replace OD : Hid (Own wc (w.heap.size + 1)) := OD.out.later hb.out
  replace HB : Hid (Below w.heap.size w wc) := HB.out.trans (hb.out.mono (by omega))
  replace hz : w.heap.size + 1 < wc.heap.size := by have := hb.out.size; omega
  clear hb Vm6
  generalize wc = W8 at *
  go_upto_region 8 with fail
  go_cut [10] from 14 (fun tv wc => ∃ (b : Nat) (v : Int), tv = .pointer (some ⟨b, 0, none⟩) ∧ El v ∧ Hid (v = pw x0 1125899906842623) ∧ Hid (Var wc b v) ∧ w.heap.size + 1 < b ∧ Hid (Below W8.heap.size W8 wc))
  case first =>
    obtain ⟨m7c0, m7c1, m7c2, m7c3⟩ := Vm7.out
    have m7u0 : ∀ u, ExtB (w.heap.size + 1) W8 u → u.cell? ⟨b7, 0, none⟩ = some (.int .u64 (e0 v7)) := fun u hu => hu.cell (by omega) m7c0
    have m7u1 : ∀ u, ExtB (w.heap.size + 1) W8 u → u.cell? ⟨b7, 1, none⟩ = some (.int .u64 (e1 v7)) := fun u hu => hu.cell (by omega) m7c1
    have m7u2 : ∀ u, ExtB (w.heap.size + 1) W8 u → u.cell? ⟨b7, 2, none⟩ = some (.int .u64 (e2 v7)) := fun u hu => hu.cell (by omega) m7c2
    have m7u3 : ∀ u, ExtB (w.heap.size + 1) W8 u → u.cell? ⟨b7, 3, none⟩ = some (.int .u64 (e3 v7)) := fun u hu => hu.cell (by omega) m7c3
    clear m7c0 m7c1 m7c2 m7c3
    obtain ⟨m5c0, m5c1, m5c2, m5c3⟩ := Vm5.out
    have m5u0 : ∀ u, ExtB (w.heap.size + 1) W8 u → u.cell? ⟨b5, 0, none⟩ = some (.int .u64 (e0 v5)) := fun u hu => hu.cell (by omega) m5c0
    have m5u1 : ∀ u, ExtB (w.heap.size + 1) W8 u → u.cell? ⟨b5, 1, none⟩ = some (.int .u64 (e1 v5)) := fun u hu => hu.cell (by omega) m5c1
    have m5u2 : ∀ u, ExtB (w.heap.size + 1) W8 u → u.cell? ⟨b5, 2, none⟩ = some (.int .u64 (e2 v5)) := fun u hu => hu.cell (by omega) m5c2
    have m5u3 : ∀ u, ExtB (w.heap.size + 1) W8 u → u.cell? ⟨b5, 3, none⟩ = some (.int .u64 (e3 v5)) := fun u hu => hu.cell (by omega) m5c3
    clear m5c0 m5c1 m5c2 m5c3
    refine wp_region_noPanic ?_
    refine wp_region_held_drew (S := ExtB (w.heap.size + 1) W8) (by kernel_rfl) (ExtB.refl _ _).drew (fun hH => ?_)
    refine wpAnyH_take (i := 0) (oi := ?o0r8) (v := ?v0r8) ?h0r8 (by kernel_rfl) ?f0r8 ?r0r8 (fun _ _ _ h => h) (Or.inl ⟨?w0r8, ?y0r8⟩) (by assumption) ?t0r8
    case h0r8 => simp only [List.getElem?_toArray, List.getElem?_cons_zero]; rfl
    case f0r8 => kernel_rfl
    case r0r8 => kernel_rfl
    case w0r8 => rfl
    case y0r8 => (intro u hu; (go_simp) <;> with_reducible rfl)
    try simp only [Act.put, List.setIfInBounds_toArray, List.set_cons_zero, List.set_cons_succ]
    refine wpAnyH_take (i := 2) (oi := ?o2r8) (v := ?v2r8) ?h2r8 (by kernel_rfl) ?f2r8 ?r2r8 (fun _ _ _ h => h) (Or.inl ⟨?w2r8, ?y2r8⟩) (by assumption) ?t2r8
    case h2r8 => simp only [List.getElem?_toArray, List.getElem?_cons_succ, List.getElem?_cons_zero]; rfl
    case f2r8 => kernel_rfl
    case r2r8 => kernel_rfl
    case w2r8 => rfl
    case y2r8 => (intro u hu; (go_simp) <;> with_reducible rfl)
    try simp only [Act.put, List.setIfInBounds_toArray, List.set_cons_zero, List.set_cons_succ]
    clear m7u0 m7u1 m7u2 m7u3 m5u0 m5u1 m5u2 m5u3
    refine wpAnyH_ready (rs := [1, 4]) (by kernel_rfl) (by simp) ?_
    refine AllReadyH.cons (o := ?o1a8) ?h1a8 (fun K hK => ?c1a8) (AllReadyH.cons (o := ?o4a8) ?h4a8 (fun K hK => ?c4a8) AllReadyH.nil)
    case h1a8 => simp only [List.getElem?_toArray, List.getElem?_cons_succ, List.getElem?_cons_zero]; rfl
    case h4a8 => simp only [List.getElem?_toArray, List.getElem?_cons_succ, List.getElem?_cons_zero]; rfl
    case c1a8 =>
      go_simp
      refine (squared_e x0 1099511627775 10 (by decide) v7 hv7 HV7 _).mono ?_
      rintro e wa ⟨s, rfl, hs, HS, hb1⟩
      rw [show 1099511627775 * 2 ^ 10 = 1125899906841600 from by decide] at HS
      refine hK.out _ _ (hH.trans hb1) (fun hH' => ?_)
      clear hK K hH
      have hH := hH'
      clear hH'
      try simp only [Act.put, List.setIfInBounds_toArray, List.set_cons_zero, List.set_cons_succ]
      refine wpAnyH_ready (rs := [3, 4]) (by kernel_rfl) (by simp) ?_
      refine AllReadyH.cons (o := ?o3b8) ?h3b8 (fun K hK => ?c3b8) (AllReadyH.cons (o := ?o4b8) ?h4b8 (fun K hK => ?c4b8) AllReadyH.nil)
      case h3b8 => simp only [List.getElem?_toArray, List.getElem?_cons_succ, List.getElem?_cons_zero]; rfl
      case h4b8 => simp only [List.getElem?_toArray, List.getElem?_cons_succ, List.getElem?_cons_zero]; rfl
      case c3b8 =>
        go_simp
        refine (mul_e _ _ hs hv5 _).mono ?_
        rintro e wb ⟨v, rfl, hv, HV, hb2⟩
        have HV' : Hid (v = pw x0 1125899906842623) := by unfold Hid; rw [HV.out]; have h1 := HS.out; have h2 := HV5.out; rw [h1, h2, pw_mul]
        refine hK.out _ _ (hH.trans hb2) (fun hH' => ?_)
        clear hK K hH
        have hH := hH'
        clear hH'
        try simp only [Act.put, List.setIfInBounds_toArray, List.set_cons_zero, List.set_cons_succ]
        have hb : Below W8.heap.size W8 wb := (((Below.refl _ _).drew.trans (hb1.mono (Nat.le_refl _))).trans (hb2.mono hb1.size))
        have hs' : w.heap.size + 1 < wb.heap.size := by have := hb.size; omega
        have hHa := hH
        refine wpAnyH_ready (rs := [4]) (by kernel_rfl) (by simp) ?_
        refine AllReadyH.cons (o := ?o4c8) ?h4c8 (fun K hK => ?_) AllReadyH.nil
        case h4c8 => simp only [List.getElem?_toArray, List.getElem?_cons_succ, List.getElem?_cons_zero]; rfl
        go_simp
        refine hK.out _ _ (hHa.alloc _) (fun hH' => ?_)
        clear hK K hH
        have hH := hH'
        clear hH'
        try simp only [Act.put, List.setIfInBounds_toArray, List.set_cons_zero, List.set_cons_succ]
        refine wpAnyH_ready (rs := [5]) (by kernel_rfl) (by simp) ?_
        refine AllReadyH.cons (o := ?o5c8) ?h5c8 (fun K hK => ?_) AllReadyH.nil
        case h5c8 => simp only [List.getElem?_toArray, List.getElem?_cons_succ, List.getElem?_cons_zero]; rfl
        go_simp
        refine hK.out _ _ (hHa.alloc _) (fun hH' => ?_)
        clear hK K hH
        have hH := hH'
        clear hH'
        try simp only [Act.put, List.setIfInBounds_toArray, List.set_cons_zero, List.set_cons_succ]
        refine wpAnyH_done (by kernel_rfl) ?_ _
        refine NoPanic.normal ?_
        go_wp2_with fail
        go_meet
        case rel => exact ⟨wb.heap.size, v, rfl, hv, HV', var_new wb v _, hs', hb.trans ((bel1 wb _).mono hb.size)⟩
      case c4b8 =>
        go_simp
        refine hK.out _ _ (hH.alloc _) (fun hH' => ?_)
        clear hK K hH
        have hH := hH'
        clear hH'
        try simp only [Act.put, List.setIfInBounds_toArray, List.set_cons_zero, List.set_cons_succ]
        refine wpAnyH_ready (rs := [3]) (by kernel_rfl) (by simp) ?_
        refine AllReadyH.cons (o := ?o3d8) ?h3d8 (fun K hK => ?_) AllReadyH.nil
        case h3d8 => simp only [List.getElem?_toArray, List.getElem?_cons_succ, List.getElem?_cons_zero]; rfl
        go_simp
        refine (mul_e _ _ hs hv5 _).mono ?_
        rintro e wb ⟨v, rfl, hv, HV, hb2⟩
        have HV' : Hid (v = pw x0 1125899906842623) := by unfold Hid; rw [HV.out]; have h1 := HS.out; have h2 := HV5.out; rw [h1, h2, pw_mul]
        refine hK.out _ _ (hH.trans hb2) (fun hH' => ?_)
        clear hK K hH
        have hH := hH'
        clear hH'
        try simp only [Act.put, List.setIfInBounds_toArray, List.set_cons_zero, List.set_cons_succ]
        have ON : Hid (Own wb wa.heap.size) := (own_new wa _ _ _ _ _).later hb2
        have hle : W8.heap.size ≤ wa.heap.size := hb1.size
        have hs' : w.heap.size + 1 < wa.heap.size := by omega
        obtain ⟨⟨_, nc0⟩, ⟨_, nc1⟩, ⟨_, nc2⟩, ⟨_, nc3⟩, nf0, nf1, nf2, nf3⟩ := ON.out
        refine wpAnyH_ready (rs := [5]) (by kernel_rfl) (by simp) ?_
        refine AllReadyH.cons (o := ?o5d8) ?h5d8 (fun K hK => ?_) AllReadyH.nil
        case h5d8 => simp only [List.getElem?_toArray, List.getElem?_cons_succ, List.getElem?_cons_zero]; rfl
        go_simp
        refine hK.out _ _ (hH.set4 _ (by exact hle) _ _ _ _) (fun hH' => ?_)
        clear hK K hH
        have hH := hH'
        clear hH'
        try simp only [Act.put, List.setIfInBounds_toArray, List.set_cons_zero, List.set_cons_succ]
        refine wpAnyH_done (by kernel_rfl) ?_ _
        refine NoPanic.normal ?_
        go_wp2_with fail
        go_meet
        case rel => exact ⟨wa.heap.size, v, rfl, hv, HV', var_set wb _ v ON.out, hs', below_set4 (((Below.refl _ _).drew.trans (hb1.mono (Nat.le_refl _))).trans (((bel1 wa _).mono hb1.size).trans (hb2.mono (by simp; exact Nat.le_succ_of_le hb1.size)))) _ (by exact hle) _ _ _ _⟩
    case c4a8 =>
      go_simp
      refine hK.out _ _ (hH.alloc _) (fun hH' => ?_)
      clear hK K hH
      have hH := hH'
      clear hH'
      try simp only [Act.put, List.setIfInBounds_toArray, List.set_cons_zero, List.set_cons_succ]
      refine wpAnyH_ready (rs := [1]) (by kernel_rfl) (by simp) ?_
      refine AllReadyH.cons (o := ?o1e8) ?h1e8 (fun K hK => ?_) AllReadyH.nil
      case h1e8 => simp only [List.getElem?_toArray, List.getElem?_cons_succ, List.getElem?_cons_zero]; rfl
      go_simp
      refine (squared_e x0 1099511627775 10 (by decide) v7 hv7 HV7 _).mono ?_
      rintro e wa ⟨s, rfl, hs, HS, hb1⟩
      rw [show 1099511627775 * 2 ^ 10 = 1125899906841600 from by decide] at HS
      refine hK.out _ _ (hH.trans hb1) (fun hH' => ?_)
      clear hK K hH
      have hH := hH'
      clear hH'
      try simp only [Act.put, List.setIfInBounds_toArray, List.set_cons_zero, List.set_cons_succ]
      refine wpAnyH_ready (rs := [3]) (by kernel_rfl) (by simp) ?_
      refine AllReadyH.cons (o := ?o3e8) ?h3e8 (fun K hK => ?_) AllReadyH.nil
      case h3e8 => simp only [List.getElem?_toArray, List.getElem?_cons_succ, List.getElem?_cons_zero]; rfl
      go_simp
      refine (mul_e _ _ hs hv5 _).mono ?_
      rintro e wb ⟨v, rfl, hv, HV, hb2⟩
      have HV' : Hid (v = pw x0 1125899906842623) := by unfold Hid; rw [HV.out]; have h1 := HS.out; have h2 := HV5.out; rw [h1, h2, pw_mul]
      refine hK.out _ _ (hH.trans hb2) (fun hH' => ?_)
      clear hK K hH
      have hH := hH'
      clear hH'
      try simp only [Act.put, List.setIfInBounds_toArray, List.set_cons_zero, List.set_cons_succ]
      have ON : Hid (Own wb W8.heap.size) := ((own_new W8.drew _ _ _ _ _).later hb1).later hb2
      have hle : W8.heap.size ≤ W8.heap.size := Nat.le_refl _
      have hs' : w.heap.size + 1 < W8.heap.size := by omega
      obtain ⟨⟨_, nc0⟩, ⟨_, nc1⟩, ⟨_, nc2⟩, ⟨_, nc3⟩, nf0, nf1, nf2, nf3⟩ := ON.out
      refine wpAnyH_ready (rs := [5]) (by kernel_rfl) (by simp) ?_
      refine AllReadyH.cons (o := ?o5e8) ?h5e8 (fun K hK => ?_) AllReadyH.nil
      case h5e8 => simp only [List.getElem?_toArray, List.getElem?_cons_succ, List.getElem?_cons_zero]; rfl
      go_simp
      refine hK.out _ _ (hH.set4 _ (by exact hle) _ _ _ _) (fun hH' => ?_)
      clear hK K hH
      have hH := hH'
      clear hH'
      try simp only [Act.put, List.setIfInBounds_toArray, List.set_cons_zero, List.set_cons_succ]
      refine wpAnyH_done (by kernel_rfl) ?_ _
      refine NoPanic.normal ?_
      go_wp2_with fail
      go_meet
      case rel => exact ⟨_, v, rfl, hv, HV', var_set wb _ v ON.out, hs', below_set4 ((Below.refl _ _).drew.trans (((bel1 W8.drew _).trans (hb1.mono (by simp))).trans (hb2.mono (by have := hb1.size; simp at this; exact Nat.le_of_succ_le this)))) _ (by exact hle) _ _ _ _⟩
  obtain ⟨b8, v8, rfl, hv8, HV8, Vm8, hlt8, hb⟩ := hcut
  replace Vm3 : Hid (Var wc (b3) v3) := Vm3.out.later hb.out
  replace OD : Hid (Own wc (w.heap.size + 1)) := OD.out.later hb.out
  replace HB : Hid (Below w.heap.size w wc) := HB.out.trans (hb.out.mono (by omega))
  replace hz : w.heap.size + 1 < wc.heap.size := by have := hb.out.size; omega
  clear hb Vm5 Vm7
  generalize wc = W9 at *
  go_upto_region 9 with fail
  go_cut [11] from 14 (fun tv wc => ∃ (b : Nat) (v : Int), tv = .pointer (some ⟨b, 0, none⟩) ∧ El v ∧ Hid (v = pw x0 1267650600228229401496703205375) ∧ Hid (Var wc b v) ∧ w.heap.size + 1 < b ∧ Hid (Below W9.heap.size W9 wc))
  case first =>
    obtain ⟨m8c0, m8c1, m8c2, m8c3⟩ := Vm8.out
    have m8u0 : ∀ u, ExtB (w.heap.size + 1) W9 u → u.cell? ⟨b8, 0, none⟩ = some (.int .u64 (e0 v8)) := fun u hu => hu.cell (by omega) m8c0
    have m8u1 : ∀ u, ExtB (w.heap.size + 1) W9 u → u.cell? ⟨b8, 1, none⟩ = some (.int .u64 (e1 v8)) := fun u hu => hu.cell (by omega) m8c1
    have m8u2 : ∀ u, ExtB (w.heap.size + 1) W9 u → u.cell? ⟨b8, 2, none⟩ = some (.int .u64 (e2 v8)) := fun u hu => hu.cell (by omega) m8c2
    have m8u3 : ∀ u, ExtB (w.heap.size + 1) W9 u → u.cell? ⟨b8, 3, none⟩ = some (.int .u64 (e3 v8)) := fun u hu => hu.cell (by omega) m8c3
    clear m8c0 m8c1 m8c2 m8c3
    refine wp_region_noPanic ?_
    refine wp_region_held_drew (S := ExtB (w.heap.size + 1) W9) (by kernel_rfl) (ExtB.refl _ _).drew (fun hH => ?_)
    refine wpAnyH_take (i := 0) (oi := ?o0r9) (v := ?v0r9) ?h0r9 (by kernel_rfl) ?f0r9 ?r0r9 (fun _ _ _ h => h) (Or.inl ⟨?w0r9, ?y0r9⟩) (by assumption) ?t0r9
    case h0r9 => simp only [List.getElem?_toArray, List.getElem?_cons_zero]; rfl
    case f0r9 => kernel_rfl
    case r0r9 => kernel_rfl
    case w0r9 => rfl
    case y0r9 => (intro u hu; (go_simp) <;> with_reducible rfl)
    try simp only [Act.put, List.setIfInBounds_toArray, List.set_cons_zero, List.set_cons_succ]
    refine wpAnyH_take (i := 2) (oi := ?o2r9) (v := ?v2r9) ?h2r9 (by kernel_rfl) ?f2r9 ?r2r9 (fun _ _ _ h => h) (Or.inl ⟨?w2r9, ?y2r9⟩) (by assumption) ?t2r9
    case h2r9 => simp only [List.getElem?_toArray, List.getElem?_cons_succ, List.getElem?_cons_zero]; rfl
    case f2r9 => kernel_rfl
    case r2r9 => kernel_rfl
    case w2r9 => rfl
    case y2r9 => (intro u hu; (go_simp) <;> with_reducible rfl)
    try simp only [Act.put, List.setIfInBounds_toArray, List.set_cons_zero, List.set_cons_succ]
    clear m8u0 m8u1 m8u2 m8u3
    refine wpAnyH_ready (rs := [1, 4]) (by kernel_rfl) (by simp) ?_
    refine AllReadyH.cons (o := ?o1a9) ?h1a9 (fun K hK => ?c1a9) (AllReadyH.cons (o := ?o4a9) ?h4a9 (fun K hK => ?c4a9) AllReadyH.nil)
    case h1a9 => simp only [List.getElem?_toArray, List.getElem?_cons_succ, List.getElem?_cons_zero]; rfl
    case h4a9 => simp only [List.getElem?_toArray, List.getElem?_cons_succ, List.getElem?_cons_zero]; rfl
    case c1a9 =>
      go_simp
      refine (squared_e x0 1125899906842623 50 (by decide) v8 hv8 HV8 _).mono ?_
      rintro e wa ⟨s, rfl, hs, HS, hb1⟩
      rw [show 1125899906842623 * 2 ^ 50 = 1267650600228228275596796362752 from by decide] at HS
      refine hK.out _ _ (hH.trans hb1) (fun hH' => ?_)
      clear hK K hH
      have hH := hH'
      clear hH'
      try simp only [Act.put, List.setIfInBounds_toArray, List.set_cons_zero, List.set_cons_succ]
      refine wpAnyH_ready (rs := [3, 4]) (by kernel_rfl) (by simp) ?_
      refine AllReadyH.cons (o := ?o3b9) ?h3b9 (fun K hK => ?c3b9) (AllReadyH.cons (o := ?o4b9) ?h4b9 (fun K hK => ?c4b9) AllReadyH.nil)
      case h3b9 => simp only [List.getElem?_toArray, List.getElem?_cons_succ, List.getElem?_cons_zero]; rfl
      case h4b9 => simp only [List.getElem?_toArray, List.getElem?_cons_succ, List.getElem?_cons_zero]; rfl
      case c3b9 =>
        go_simp
        refine (mul_e _ _ hs hv8 _).mono ?_
        rintro e wb ⟨v, rfl, hv, HV, hb2⟩
        have HV' : Hid (v = pw x0 1267650600228229401496703205375) := by unfold Hid; rw [HV.out]; have h1 := HS.out; have h2 := HV8.out; rw [h1, h2, pw_mul]
        refine hK.out _ _ (hH.trans hb2) (fun hH' => ?_)
        clear hK K hH
        have hH := hH'
        clear hH'
        try simp only [Act.put, List.setIfInBounds_toArray, List.set_cons_zero, List.set_cons_succ]
        have hb : Below W9.heap.size W9 wb := (((Below.refl _ _).drew.trans (hb1.mono (Nat.le_refl _))).trans (hb2.mono hb1.size))
        have hs' : w.heap.size + 1 < wb.heap.size := by have := hb.size; omega
        have hHa := hH
        refine wpAnyH_ready (rs := [4]) (by kernel_rfl) (by simp) ?_
        refine AllReadyH.cons (o := ?o4c9) ?h4c9 (fun K hK => ?_) AllReadyH.nil
        case h4c9 => simp only [List.getElem?_toArray, List.getElem?_cons_succ, List.getElem?_cons_zero]; rfl
        go_simp
        refine hK.out _ _ (hHa.alloc _) (fun hH' => ?_)
        clear hK K hH
        have hH := hH'
        clear hH'
        try simp only [Act.put, List.setIfInBounds_toArray, List.set_cons_zero, List.set_cons_succ]
        refine wpAnyH_ready (rs := [5]) (by kernel_rfl) (by simp) ?_
        refine AllReadyH.cons (o := ?o5c9) ?h5c9 (fun K hK => ?_) AllReadyH.nil
        case h5c9 => simp only [List.getElem?_toArray, List.getElem?_cons_succ, List.getElem?_cons_zero]; rfl
        go_simp
        refine hK.out _ _ (hHa.alloc _) (fun hH' => ?_)
        clear hK K hH
        have hH := hH'
        clear hH'
        try simp only [Act.put, List.setIfInBounds_toArray, List.set_cons_zero, List.set_cons_succ]
        refine wpAnyH_done (by kernel_rfl) ?_ _
        refine NoPanic.normal ?_
        go_wp2_with fail
        go_meet
        case rel => exact ⟨wb.heap.size, v, rfl, hv, HV', var_new wb v _, hs', hb.trans ((bel1 wb _).mono hb.size)⟩
      case c4b9 =>
        go_simp
        refine hK.out _ _ (hH.alloc _) (fun hH' => ?_)
        clear hK K hH
        have hH := hH'
        clear hH'
        try simp only [Act.put, List.setIfInBounds_toArray, List.set_cons_zero, List.set_cons_succ]
        refine wpAnyH_ready (rs := [3]) (by kernel_rfl) (by simp) ?_
        refine AllReadyH.cons (o := ?o3d9) ?h3d9 (fun K hK => ?_) AllReadyH.nil
        case h3d9 => simp only [List.getElem?_toArray, List.getElem?_cons_succ, List.getElem?_cons_zero]; rfl
        go_simp
        refine (mul_e _ _ hs hv8 _).mono ?_
        rintro e wb ⟨v, rfl, hv, HV, hb2⟩
        have HV' : Hid (v = pw x0 1267650600228229401496703205375) := by unfold Hid; rw [HV.out]; have h1 := HS.out; have h2 := HV8.out; rw [h1, h2, pw_mul]
        refine hK.out _ _ (hH.trans hb2) (fun hH' => ?_)
        clear hK K hH
        have hH := hH'
        clear hH'
        try simp only [Act.put, List.setIfInBounds_toArray, List.set_cons_zero, List.set_cons_succ]
        have ON : Hid (Own wb wa.heap.size) := (own_new wa _ _ _ _ _).later hb2
        have hle : W9.heap.size ≤ wa.heap.size := hb1.size
        have hs' : w.heap.size + 1 < wa.heap.size := by omega
        obtain ⟨⟨_, nc0⟩, ⟨_, nc1⟩, ⟨_, nc2⟩, ⟨_, nc3⟩, nf0, nf1, nf2, nf3⟩ := ON.out
        refine wpAnyH_ready (rs := [5]) (by kernel_rfl) (by simp) ?_
        refine AllReadyH.cons (o := ?o5d9) ?h5d9 (fun K hK => ?_) AllReadyH.nil
        case h5d9 => simp only [List.getElem?_toArray, List.getElem?_cons_succ, List.getElem?_cons_zero]; rfl
        go_simp
        refine hK.out _ _ (hH.set4 _ (by exact hle) _ _ _ _) (fun hH' => ?_)
        clear hK K hH
        have hH := hH'
        clear hH'
        try simp only [Act.put, List.setIfInBounds_toArray, List.set_cons_zero, List.set_cons_succ]
        refine wpAnyH_done (by kernel_rfl) ?_ _
        refine NoPanic.normal ?_
        go_wp2_with fail
        go_meet
        case rel => exact ⟨wa.heap.size, v, rfl, hv, HV', var_set wb _ v ON.out, hs', below_set4 (((Below.refl _ _).drew.trans (hb1.mono (Nat.le_refl _))).trans (((bel1 wa _).mono hb1.size).trans (hb2.mono (by simp; exact Nat.le_succ_of_le hb1.size)))) _ (by exact hle) _ _ _ _⟩
    case c4a9 =>
      go_simp
      refine hK.out _ _ (hH.alloc _) (fun hH' => ?_)
      clear hK K hH
      have hH := hH'
      clear hH'
      try simp only [Act.put, List.setIfInBounds_toArray, List.set_cons_zero, List.set_cons_succ]
      refine wpAnyH_ready (rs := [1]) (by kernel_rfl) (by simp) ?_
      refine AllReadyH.cons (o := ?o1e9) ?h1e9 (fun K hK => ?_) AllReadyH.nil
      case h1e9 => simp only [List.getElem?_toArray, List.getElem?_cons_succ, List.getElem?_cons_zero]; rfl
      go_simp
      refine (squared_e x0 1125899906842623 50 (by decide) v8 hv8 HV8 _).mono ?_
      rintro e wa ⟨s, rfl, hs, HS, hb1⟩
      rw [show 1125899906842623 * 2 ^ 50 = 1267650600228228275596796362752 from by decide] at HS
      refine hK.out _ _ (hH.trans hb1) (fun hH' => ?_)
      clear hK K hH
      have hH := hH'
      clear hH'
      try simp only [Act.put, List.setIfInBounds_toArray, List.set_cons_zero, List.set_cons_succ]
      refine wpAnyH_ready (rs := [3]) (by kernel_rfl) (by simp) ?_
      refine AllReadyH.cons (o := ?o3e9) ?h3e9 (fun K hK => ?_) AllReadyH.nil
      case h3e9 => simp only [List.getElem?_toArray, List.getElem?_cons_succ, List.getElem?_cons_zero]; rfl
      go_simp
      refine (mul_e _ _ hs hv8 _).mono ?_
      rintro e wb ⟨v, rfl, hv, HV, hb2⟩
      have HV' : Hid (v = pw x0 1267650600228229401496703205375) := by unfold Hid; rw [HV.out]; have h1 := HS.out; have h2 := HV8.out; rw [h1, h2, pw_mul]
      refine hK.out _ _ (hH.trans hb2) (fun hH' => ?_)
      clear hK K hH
      have hH := hH'
      clear hH'
      try simp only [Act.put, List.setIfInBounds_toArray, List.set_cons_zero, List.set_cons_succ]
      have ON : Hid (Own wb W9.heap.size) := ((own_new W9.drew _ _ _ _ _).later hb1).later hb2
      have hle : W9.heap.size ≤ W9.heap.size := Nat.le_refl _
      have hs' : w.heap.size + 1 < W9.heap.size := by omega
      obtain ⟨⟨_, nc0⟩, ⟨_, nc1⟩, ⟨_, nc2⟩, ⟨_, nc3⟩, nf0, nf1, nf2, nf3⟩ := ON.out
      refine wpAnyH_ready (rs := [5]) (by kernel_rfl) (by simp) ?_
      refine AllReadyH.cons (o := ?o5e9) ?h5e9 (fun K hK => ?_) AllReadyH.nil
      case h5e9 => simp only [List.getElem?_toArray, List.getElem?_cons_succ, List.getElem?_cons_zero]; rfl
      go_simp
      refine hK.out _ _ (hH.set4 _ (by exact hle) _ _ _ _) (fun hH' => ?_)
      clear hK K hH
      have hH := hH'
      clear hH'
      try simp only [Act.put, List.setIfInBounds_toArray, List.set_cons_zero, List.set_cons_succ]
      refine wpAnyH_done (by kernel_rfl) ?_ _
      refine NoPanic.normal ?_
      go_wp2_with fail
      go_meet
      case rel => exact ⟨_, v, rfl, hv, HV', var_set wb _ v ON.out, hs', below_set4 ((Below.refl _ _).drew.trans (((bel1 W9.drew _).trans (hb1.mono (by simp))).trans (hb2.mono (by have := hb1.size; simp at this; exact Nat.le_of_succ_le this)))) _ (by exact hle) _ _ _ _⟩
  obtain ⟨b9, v9, rfl, hv9, HV9, Vm9, hlt9, hb⟩ := hcut
  replace Vm3 : Hid (Var wc (b3) v3) := Vm3.out.later hb.out
  replace Vm8 : Hid (Var wc (b8) v8) := Vm8.out.later hb.out
  replace OD : Hid (Own wc (w.heap.size + 1)) := OD.out.later hb.out
  replace HB : Hid (Below w.heap.size w wc) := HB.out.trans (hb.out.mono (by omega))
  replace hz : w.heap.size + 1 < wc.heap.size := by have := hb.out.size; omega
  clear hb 
  generalize wc = W10 at *
  go_upto_region 10 with fail
  go_cut [12] from 14 (fun tv wc => ∃ (b : Nat) (v : Int), tv = .pointer (some ⟨b, 0, none⟩) ∧ El v ∧ Hid (v = pw x0 1606938044258990275541962092341162602522202993782792835301375) ∧ Hid (Var wc b v) ∧ w.heap.size + 1 < b ∧ Hid (Below W10.heap.size W10 wc))
  case first =>
    obtain ⟨m9c0, m9c1, m9c2, m9c3⟩ := Vm9.out
    have m9u0 : ∀ u, ExtB (w.heap.size + 1) W10 u → u.cell? ⟨b9, 0, none⟩ = some (.int .u64 (e0 v9)) := fun u hu => hu.cell (by omega) m9c0
    have m9u1 : ∀ u, ExtB (w.heap.size + 1) W10 u → u.cell? ⟨b9, 1, none⟩ = some (.int .u64 (e1 v9)) := fun u hu => hu.cell (by omega) m9c1
    have m9u2 : ∀ u, ExtB (w.heap.size + 1) W10 u → u.cell? ⟨b9, 2, none⟩ = some (.int .u64 (e2 v9)) := fun u hu => hu.cell (by omega) m9c2
    have m9u3 : ∀ u, ExtB (w.heap.size + 1) W10 u → u.cell? ⟨b9, 3, none⟩ = some (.int .u64 (e3 v9)) := fun u hu => hu.cell (by omega) m9c3
    clear m9c0 m9c1 m9c2 m9c3
    refine wp_region_noPanic ?_
    refine wp_region_held_drew (S := ExtB (w.heap.size + 1) W10) (by kernel_rfl) (ExtB.refl _ _).drew (fun hH => ?_)
    refine wpAnyH_take (i := 0) (oi := ?o0r10) (v := ?v0r10) ?h0r10 (by kernel_rfl) ?f0r10 ?r0r10 (fun _ _ _ h => h) (Or.inl ⟨?w0r10, ?y0r10⟩) (by assumption) ?t0r10
    case h0r10 => simp only [List.getElem?_toArray, List.getElem?_cons_zero]; rfl
    case f0r10 => kernel_rfl
    case r0r10 => kernel_rfl
    case w0r10 => rfl
    case y0r10 => (intro u hu; (go_simp) <;> with_reducible rfl)
    try simp only [Act.put, List.setIfInBounds_toArray, List.set_cons_zero, List.set_cons_succ]
    refine wpAnyH_take (i := 2) (oi := ?o2r10) (v := ?v2r10) ?h2r10 (by kernel_rfl) ?f2r10 ?r2r10 (fun _ _ _ h => h) (Or.inl ⟨?w2r10, ?y2r10⟩) (by assumption) ?t2r10
    case h2r10 => simp only [List.getElem?_toArray, List.getElem?_cons_succ, List.getElem?_cons_zero]; rfl
    case f2r10 => kernel_rfl
    case r2r10 => kernel_rfl
    case w2r10 => rfl
    case y2r10 => (intro u hu; (go_simp) <;> with_reducible rfl)
    try simp only [Act.put, List.setIfInBounds_toArray, List.set_cons_zero, List.set_cons_succ]
    clear m9u0 m9u1 m9u2 m9u3
    refine wpAnyH_ready (rs := [1, 4]) (by kernel_rfl) (by simp) ?_
    refine AllReadyH.cons (o := ?o1a10) ?h1a10 (fun K hK => ?c1a10) (AllReadyH.cons (o := ?o4a10) ?h4a10 (fun K hK => ?c4a10) AllReadyH.nil)
    case h1a10 => simp only [List.getElem?_toArray, List.getElem?_cons_succ, List.getElem?_cons_zero]; rfl
    case h4a10 => simp only [List.getElem?_toArray, List.getElem?_cons_succ, List.getElem?_cons_zero]; rfl
    case c1a10 =>
      go_simp
      refine (squared_e x0 1267650600228229401496703205375 100 (by decide) v9 hv9 HV9 _).mono ?_
      rintro e wa ⟨s, rfl, hs, HS, hb1⟩
      rw [show 1267650600228229401496703205375 * 2 ^ 100 = 1606938044258990275541962092339894951921974764381296132096000 from by decide] at HS
      refine hK.out _ _ (hH.trans hb1) (fun hH' => ?_)
      clear hK K hH
      have hH := hH'
      clear hH'
      try simp only [Act.put, List.setIfInBounds_toArray, List.set_cons_zero, List.set_cons_succ]
      refine wpAnyH_ready (rs := [3, 4]) (by kernel_rfl) (by simp) ?_
      refine AllReadyH.cons (o := ?o3b10) ?h3b10 (fun K hK => ?c3b10) (AllReadyH.cons (o := ?o4b10) ?h4b10 (fun K hK => ?c4b10) AllReadyH.nil)
      case h3b10 => simp only [List.getElem?_toArray, List.getElem?_cons_succ, List.getElem?_cons_zero]; rfl
      case h4b10 => simp only [List.getElem?_toArray, List.getElem?_cons_succ, List.getElem?_cons_zero]; rfl
      case c3b10 =>
        go_simp
        refine (mul_e _ _ hs hv9 _).mono ?_
        rintro e wb ⟨v, rfl, hv, HV, hb2⟩
        have HV' : Hid (v = pw x0 1606938044258990275541962092341162602522202993782792835301375) := by unfold Hid; rw [HV.out]; have h1 := HS.out; have h2 := HV9.out; rw [h1, h2, pw_mul]
        refine hK.out _ _ (hH.trans hb2) (fun hH' => ?_)
        clear hK K hH
        have hH := hH'
        clear hH'
        try simp only [Act.put, List.setIfInBounds_toArray, List.set_cons_zero, List.set_cons_succ]
        have hb : Below W10.heap.size W10 wb := (((Below.refl _ _).drew.trans (hb1.mono (Nat.le_refl _))).trans (hb2.mono hb1.size))
        have hs' : w.heap.size + 1 < wb.heap.size := by have := hb.size; omega
        have hHa := hH
        refine wpAnyH_ready (rs := [4]) (by kernel_rfl) (by simp) ?_
        refine AllReadyH.cons (o := ?o4c10) ?h4c10 (fun K hK => ?_) AllReadyH.nil
        case h4c10 => simp only [List.getElem?_toArray, List.getElem?_cons_succ, List.getElem?_cons_zero]; rfl
        go_simp
        refine hK.out _ _ (hHa.alloc _) (fun hH' => ?_)
        clear hK K hH
        have hH := hH'
        clear hH'
        try simp only [Act.put, List.setIfInBounds_toArray, List.set_cons_zero, List.set_cons_succ]
        refine wpAnyH_ready (rs := [5]) (by kernel_rfl) (by simp) ?_
        refine AllReadyH.cons (o := ?o5c10) ?h5c10 (fun K hK => ?_) AllReadyH.nil
        case h5c10 => simp only [List.getElem?_toArray, List.getElem?_cons_succ, List.getElem?_cons_zero]; rfl
        go_simp
        refine hK.out _ _ (hHa.alloc _) (fun hH' => ?_)
        clear hK K hH
        have hH := hH'
        clear hH'
        try simp only [Act.put, List.setIfInBounds_toArray, List.set_cons_zero, List.set_cons_succ]
        refine wpAnyH_done (by kernel_rfl) ?_ _
        refine NoPanic.normal ?_
        go_wp2_with fail
        go_meet
        case rel => exact ⟨wb.heap.size, v, rfl, hv, HV', var_new wb v _, hs', hb.trans ((bel1 wb _).mono hb.size)⟩
      case c4b10 =>
        go_simp
        refine hK.out _ _ (hH.alloc _) (fun hH' => ?_)
        clear hK K hH
        have hH := hH'
        clear hH'
        try simp only [Act.put, List.setIfInBounds_toArray, List.set_cons_zero, List.set_cons_succ]
        refine wpAnyH_ready (rs := [3]) (by kernel_rfl) (by simp) ?_
        refine AllReadyH.cons (o := ?o3d10) ?h3d10 (fun K hK => ?_) AllReadyH.nil
        case h3d10 => simp only [List.getElem?_toArray, List.getElem?_cons_succ, List.getElem?_cons_zero]; rfl
        go_simp
        refine (mul_e _ _ hs hv9 _).mono ?_
        rintro e wb ⟨v, rfl, hv, HV, hb2⟩
        have HV' : Hid (v = pw x0 1606938044258990275541962092341162602522202993782792835301375) := by unfold Hid; rw [HV.out]; have h1 := HS.out; have h2 := HV9.out; rw [h1, h2, pw_mul]
        refine hK.out _ _ (hH.trans hb2) (fun hH' => ?_)
        clear hK K hH
        have hH := hH'
        clear hH'
        try simp only [Act.put, List.setIfInBounds_toArray, List.set_cons_zero, List.set_cons_succ]
        have ON : Hid (Own wb wa.heap.size) := (own_new wa _ _ _ _ _).later hb2
        have hle : W10.heap.size ≤ wa.heap.size := hb1.size
        have hs' : w.heap.size + 1 < wa.heap.size := by omega
        obtain ⟨⟨_, nc0⟩, ⟨_, nc1⟩, ⟨_, nc2⟩, ⟨_, nc3⟩, nf0, nf1, nf2, nf3⟩ := ON.out
        refine wpAnyH_ready (rs := [5]) (by kernel_rfl) (by simp) ?_
        refine AllReadyH.cons (o := ?o5d10) ?h5d10 (fun K hK => ?_) AllReadyH.nil
        case h5d10 => simp only [List.getElem?_toArray, List.getElem?_cons_succ, List.getElem?_cons_zero]; rfl
        go_simp
        refine hK.out _ _ (hH.set4 _ (by exact hle) _ _ _ _) (fun hH' => ?_)
        clear hK K hH
        have hH := hH'
        clear hH'
        try simp only [Act.put, List.setIfInBounds_toArray, List.set_cons_zero, List.set_cons_succ]
        refine wpAnyH_done (by kernel_rfl) ?_ _
        refine NoPanic.normal ?_
        go_wp2_with fail
        go_meet
        case rel => exact ⟨wa.heap.size, v, rfl, hv, HV', var_set wb _ v ON.out, hs', below_set4 (((Below.refl _ _).drew.trans (hb1.mono (Nat.le_refl _))).trans (((bel1 wa _).mono hb1.size).trans (hb2.mono (by simp; exact Nat.le_succ_of_le hb1.size)))) _ (by exact hle) _ _ _ _⟩
    case c4a10 =>
      go_simp
      refine hK.out _ _ (hH.alloc _) (fun hH' => ?_)
      clear hK K hH
      have hH := hH'
      clear hH'
      try simp only [Act.put, List.setIfInBounds_toArray, List.set_cons_zero, List.set_cons_succ]
      refine wpAnyH_ready (rs := [1]) (by kernel_rfl) (by simp) ?_
      refine AllReadyH.cons (o := ?o1e10) ?h1e10 (fun K hK => ?_) AllReadyH.nil
      case h1e10 => simp only [List.getElem?_toArray, List.getElem?_cons_succ, List.getElem?_cons_zero]; rfl
      go_simp
      refine (squared_e x0 1267650600228229401496703205375 100 (by decide) v9 hv9 HV9 _).mono ?_
      rintro e wa ⟨s, rfl, hs, HS, hb1⟩
      rw [show 1267650600228229401496703205375 * 2 ^ 100 = 1606938044258990275541962092339894951921974764381296132096000 from by decide] at HS
      refine hK.out _ _ (hH.trans hb1) (fun hH' => ?_)
      clear hK K hH
      have hH := hH'
      clear hH'
      try simp only [Act.put, List.setIfInBounds_toArray, List.set_cons_zero, List.set_cons_succ]
      refine wpAnyH_ready (rs := [3]) (by kernel_rfl) (by simp) ?_
      refine AllReadyH.cons (o := ?o3e10) ?h3e10 (fun K hK => ?_) AllReadyH.nil
      case h3e10 => simp only [List.getElem?_toArray, List.getElem?_cons_succ, List.getElem?_cons_zero]; rfl
      go_simp
      refine (mul_e _ _ hs hv9 _).mono ?_
      rintro e wb ⟨v, rfl, hv, HV, hb2⟩
      have HV' : Hid (v = pw x0 1606938044258990275541962092341162602522202993782792835301375) := by unfold Hid; rw [HV.out]; have h1 := HS.out; have h2 := HV9.out; rw [h1, h2, pw_mul]
      refine hK.out _ _ (hH.trans hb2) (fun hH' => ?_)
      clear hK K hH
      have hH := hH'
      clear hH'
      try simp only [Act.put, List.setIfInBounds_toArray, List.set_cons_zero, List.set_cons_succ]
      have ON : Hid (Own wb W10.heap.size) := ((own_new W10.drew _ _ _ _ _).later hb1).later hb2
      have hle : W10.heap.size ≤ W10.heap.size := Nat.le_refl _
      have hs' : w.heap.size + 1 < W10.heap.size := by omega
      obtain ⟨⟨_, nc0⟩, ⟨_, nc1⟩, ⟨_, nc2⟩, ⟨_, nc3⟩, nf0, nf1, nf2, nf3⟩ := ON.out
      refine wpAnyH_ready (rs := [5]) (by kernel_rfl) (by simp) ?_
      refine AllReadyH.cons (o := ?o5e10) ?h5e10 (fun K hK => ?_) AllReadyH.nil
      case h5e10 => simp only [List.getElem?_toArray, List.getElem?_cons_succ, List.getElem?_cons_zero]; rfl
      go_simp
      refine hK.out _ _ (hH.set4 _ (by exact hle) _ _ _ _) (fun hH' => ?_)
      clear hK K hH
      have hH := hH'
      clear hH'
      try simp only [Act.put, List.setIfInBounds_toArray, List.set_cons_zero, List.set_cons_succ]
      refine wpAnyH_done (by kernel_rfl) ?_ _
      refine NoPanic.normal ?_
      go_wp2_with fail
      go_meet
      case rel => exact ⟨_, v, rfl, hv, HV', var_set wb _ v ON.out, hs', below_set4 ((Below.refl _ _).drew.trans (((bel1 W10.drew _).trans (hb1.mono (by simp))).trans (hb2.mono (by have := hb1.size; simp at this; exact Nat.le_of_succ_le this)))) _ (by exact hle) _ _ _ _⟩
  obtain ⟨b10, v10, rfl, hv10, HV10, Vm10, hlt10, hb⟩ := hcut
  replace Vm3 : Hid (Var wc (b3) v3) := Vm3.out.later hb.out
  replace Vm8 : Hid (Var wc (b8) v8) := Vm8.out.later hb.out
  replace OD : Hid (Own wc (w.heap.size + 1)) := OD.out.later hb.out
  replace HB : Hid (Below w.heap.size w wc) := HB.out.trans (hb.out.mono (by omega))
  replace hz : w.heap.size + 1 < wc.heap.size := by have := hb.out.size; omega
  clear hb Vm9
  generalize wc = W11 at *
  go_upto_region 11 with fail
  go_cut [13] from 14 (fun tv wc => ∃ (b : Nat) (v : Int), tv = .pointer (some ⟨b, 0, none⟩) ∧ El v ∧ Hid (v = pw x0 1809251394333065553493296640760748560207343510400633813116524750123642650623) ∧ Hid (Var wc b v) ∧ w.heap.size + 1 < b ∧ Hid (Below W11.heap.size W11 wc))
  case first =>
    obtain ⟨m10c0, m10c1, m10c2, m10c3⟩ := Vm10.out
    have m10u0 : ∀ u, ExtB (w.heap.size + 1) W11 u → u.cell? ⟨b10, 0, none⟩ = some (.int .u64 (e0 v10)) := fun u hu => hu.cell (by omega) m10c0
    have m10u1 : ∀ u, ExtB (w.heap.size + 1) W11 u → u.cell? ⟨b10, 1, none⟩ = some (.int .u64 (e1 v10)) := fun u hu => hu.cell (by omega) m10c1
    have m10u2 : ∀ u, ExtB (w.heap.size + 1) W11 u → u.cell? ⟨b10, 2, none⟩ = some (.int .u64 (e2 v10)) := fun u hu => hu.cell (by omega) m10c2
    have m10u3 : ∀ u, ExtB (w.heap.size + 1) W11 u → u.cell? ⟨b10, 3, none⟩ = some (.int .u64 (e3 v10)) := fun u hu => hu.cell (by omega) m10c3
    clear m10c0 m10c1 m10c2 m10c3
    obtain ⟨m8c0, m8c1, m8c2, m8c3⟩ := Vm8.out
    have m8u0 : ∀ u, ExtB (w.heap.size + 1) W11 u → u.cell? ⟨b8, 0, none⟩ = some (.int .u64 (e0 v8)) := fun u hu => hu.cell (by omega) m8c0
    have m8u1 : ∀ u, ExtB (w.heap.size + 1) W11 u → u.cell? ⟨b8, 1, none⟩ = some (.int .u64 (e1 v8)) := fun u hu => hu.cell (by omega) m8c1
    have m8u2 : ∀ u, ExtB (w.heap.size + 1) W11 u → u.cell? ⟨b8, 2, none⟩ = some (.int .u64 (e2 v8)) := fun u hu => hu.cell (by omega) m8c2
    have m8u3 : ∀ u, ExtB (w.heap.size + 1) W11 u → u.cell? ⟨b8, 3, none⟩ = some (.int .u64 (e3 v8)) := fun u hu => hu.cell (by omega) m8c3
    clear m8c0 m8c1 m8c2 m8c3
    refine wp_region_noPanic ?_
    refine wp_region_held_drew (S := ExtB (w.heap.size + 1) W11) (by kernel_rfl) (ExtB.refl _ _).drew (fun hH => ?_)
    refine wpAnyH_take (i := 0) (oi := ?o0r11) (v := ?v0r11) ?h0r11 (by kernel_rfl) ?f0r11 ?r0r11 (fun _ _ _ h => h) (Or.inl ⟨?w0r11, ?y0r11⟩) (by assumption) ?t0r11
    case h0r11 => simp only [List.getElem?_toArray, List.getElem?_cons_zero]; rfl
    case f0r11 => kernel_rfl
    case r0r11 => kernel_rfl
    case w0r11 => rfl
    case y0r11 => (intro u hu; (go_simp) <;> with_reducible rfl)
    try simp only [Act.put, List.setIfInBounds_toArray, List.set_cons_zero, List.set_cons_succ]
    refine wpAnyH_take (i := 2) (oi := ?o2r11) (v := ?v2r11) ?h2r11 (by kernel_rfl) ?f2r11 ?r2r11 (fun _ _ _ h => h) (Or.inl ⟨?w2r11, ?y2r11⟩) (by assumption) ?t2r11
    case h2r11 => simp only [List.getElem?_toArray, List.getElem?_cons_succ, List.getElem?_cons_zero]; rfl
    case f2r11 => kernel_rfl
    case r2r11 => kernel_rfl
    case w2r11 => rfl
    case y2r11 => (intro u hu; (go_simp) <;> with_reducible rfl)
    try simp only [Act.put, List.setIfInBounds_toArray, List.set_cons_zero, List.set_cons_succ]
    clear m10u0 m10u1 m10u2 m10u3 m8u0 m8u1 m8u2 m8u3
    refine wpAnyH_ready (rs := [1, 4]) (by kernel_rfl) (by simp) ?_
    refine AllReadyH.cons (o := ?o1a11) ?h1a11 (fun K hK => ?c1a11) (AllReadyH.cons (o := ?o4a11) ?h4a11 (fun K hK => ?c4a11) AllReadyH.nil)
    case h1a11 => simp only [List.getElem?_toArray, List.getElem?_cons_succ, List.getElem?_cons_zero]; rfl
    case h4a11 => simp only [List.getElem?_toArray, List.getElem?_cons_succ, List.getElem?_cons_zero]; rfl
    case c1a11 =>
      go_simp
      refine (squared_e x0 1606938044258990275541962092341162602522202993782792835301375 50 (by decide) v10 hv10 HV10 _).mono ?_
      rintro e wa ⟨s, rfl, hs, HS, hb1⟩
      rw [show 1606938044258990275541962092341162602522202993782792835301375 * 2 ^ 50 = 1809251394333065553493296640760748560207343510400633813116523624223735808000 from by decide] at HS
      refine hK.out _ _ (hH.trans hb1) (fun hH' => ?_)
      clear hK K hH
      have hH := hH'
      clear hH'
      try simp only [Act.put, List.setIfInBounds_toArray, List.set_cons_zero, List.set_cons_succ]
      refine wpAnyH_ready (rs := [3, 4]) (by kernel_rfl) (by simp) ?_
      refine AllReadyH.cons (o := ?o3b11) ?h3b11 (fun K hK => ?c3b11) (AllReadyH.cons (o := ?o4b11) ?h4b11 (fun K hK => ?c4b11) AllReadyH.nil)
      case h3b11 => simp only [List.getElem?_toArray, List.getElem?_cons_succ, List.getElem?_cons_zero]; rfl
      case h4b11 => simp only [List.getElem?_toArray, List.getElem?_cons_succ, List.getElem?_cons_zero]; rfl
      case c3b11 =>
        go_simp
        refine (mul_e _ _ hs hv8 _).mono ?_
        rintro e wb ⟨v, rfl, hv, HV, hb2⟩
        have HV' : Hid (v = pw x0 1809251394333065553493296640760748560207343510400633813116524750123642650623) := by unfold Hid; rw [HV.out]; have h1 := HS.out; have h2 := HV8.out; rw [h1, h2, pw_mul]
        refine hK.out _ _ (hH.trans hb2) (fun hH' => ?_)
        clear hK K hH
        have hH := hH'
        clear hH'
        try simp only [Act.put, List.setIfInBounds_toArray, List.set_cons_zero, List.set_cons_succ]
        have hb : Below W11.heap.size W11 wb := (((Below.refl _ _).drew.trans (hb1.mono (Nat.le_refl _))).trans (hb2.mono hb1.size))
        have hs' : w.heap.size + 1 < wb.heap.size := by have := hb.size; omega
        have hHa := hH
        refine wpAnyH_ready (rs := [4]) (by kernel_rfl) (by simp) ?_
        refine AllReadyH.cons (o := ?o4c11) ?h4c11 (fun K hK => ?_) AllReadyH.nil
        case h4c11 => simp only [List.getElem?_toArray, List.getElem?_cons_succ, List.getElem?_cons_zero]; rfl
        go_simp
        refine hK.out _ _ (hHa.alloc _) (fun hH' => ?_)
        clear hK K hH
        have hH := hH'
        clear hH'
        try simp only [Act.put, List.setIfInBounds_toArray, List.set_cons_zero, List.set_cons_succ]
        refine wpAnyH_ready (rs := [5]) (by kernel_rfl) (by simp) ?_
        refine AllReadyH.cons (o := ?o5c11) ?h5c11 (fun K hK => ?_) AllReadyH.nil
        case h5c11 => simp only [List.getElem?_toArray, List.getElem?_cons_succ, List.getElem?_cons_zero]; rfl
        go_simp
        refine hK.out _ _ (hHa.alloc _) (fun hH' => ?_)
        clear hK K hH
        have hH := hH'
        clear hH'
        try simp only [Act.put, List.setIfInBounds_toArray, List.set_cons_zero, List.set_cons_succ]
        refine wpAnyH_done (by kernel_rfl) ?_ _
        refine NoPanic.normal ?_
        go_wp2_with fail
        go_meet
        case rel => exact ⟨wb.heap.size, v, rfl, hv, HV', var_new wb v _, hs', hb.trans ((bel1 wb _).mono hb.size)⟩
      case c4b11 =>
        go_simp
        refine hK.out _ _ (hH.alloc _) (fun hH' => ?_)
        clear hK K hH
        have hH := hH'
        clear hH'
        try simp only [Act.put, List.setIfInBounds_toArray, List.set_cons_zero, List.set_cons_succ]
        refine wpAnyH_ready (rs := [3]) (by kernel_rfl) (by simp) ?_
        refine AllReadyH.cons (o := ?o3d11) ?h3d11 (fun K hK => ?_) AllReadyH.nil
        case h3d11 => simp only [List.getElem?_toArray, List.getElem?_cons_succ, List.getElem?_cons_zero]; rfl
        go_simp
        refine (mul_e _ _ hs hv8 _).mono ?_
        rintro e wb ⟨v, rfl, hv, HV, hb2⟩
        have HV' : Hid (v = pw x0 1809251394333065553493296640760748560207343510400633813116524750123642650623) := by unfold Hid; rw [HV.out]; have h1 := HS.out; have h2 := HV8.out; rw [h1, h2, pw_mul]
        refine hK.out _ _ (hH.trans hb2) (fun hH' => ?_)
        clear hK K hH
        have hH := hH'
        clear hH'
        try simp only [Act.put, List.setIfInBounds_toArray, List.set_cons_zero, List.set_cons_succ]
        have ON : Hid (Own wb wa.heap.size) := (own_new wa _ _ _ _ _).later hb2
        have hle : W11.heap.size ≤ wa.heap.size := hb1.size
        have hs' : w.heap.size + 1 < wa.heap.size := by omega
        obtain ⟨⟨_, nc0⟩, ⟨_, nc1⟩, ⟨_, nc2⟩, ⟨_, nc3⟩, nf0, nf1, nf2, nf3⟩ := ON.out
        refine wpAnyH_ready (rs := [5]) (by kernel_rfl) (by simp) ?_
        refine AllReadyH.cons (o := ?o5d11) ?h5d11 (fun K hK => ?_) AllReadyH.nil
        case h5d11 => simp only [List.getElem?_toArray, List.getElem?_cons_succ, List.getElem?_cons_zero]; rfl
        go_simp
        refine hK.out _ _ (hH.set4 _ (by exact hle) _ _ _ _) (fun hH' => ?_)
        clear hK K hH
        have hH := hH'
        clear hH'
        try simp only [Act.put, List.setIfInBounds_toArray, List.set_cons_zero, List.set_cons_succ]
        refine wpAnyH_done (by kernel_rfl) ?_ _
        refine NoPanic.normal ?_
        go_wp2_with fail
        go_meet
        case rel => exact ⟨wa.heap.size, v, rfl, hv, HV', var_set wb _ v ON.out, hs', below_set4 (((Below.refl _ _).drew.trans (hb1.mono (Nat.le_refl _))).trans (((bel1 wa _).mono hb1.size).trans (hb2.mono (by simp; exact Nat.le_succ_of_le hb1.size)))) _ (by exact hle) _ _ _ _⟩
    case c4a11 =>
      go_simp
      refine hK.out _ _ (hH.alloc _) (fun hH' => ?_)
      clear hK K hH
      have hH := hH'
      clear hH'
      try simp only [Act.put, List.setIfInBounds_toArray, List.set_cons_zero, List.set_cons_succ]
      refine wpAnyH_ready (rs := [1]) (by kernel_rfl) (by simp) ?_
      refine AllReadyH.cons (o := ?o1e11) ?h1e11 (fun K hK => ?_) AllReadyH.nil
      case h1e11 => simp only [List.getElem?_toArray, List.getElem?_cons_succ, List.getElem?_cons_zero]; rfl
      go_simp
      refine (squared_e x0 1606938044258990275541962092341162602522202993782792835301375 50 (by decide) v10 hv10 HV10 _).mono ?_
      rintro e wa ⟨s, rfl, hs, HS, hb1⟩
      rw [show 1606938044258990275541962092341162602522202993782792835301375 * 2 ^ 50 = 1809251394333065553493296640760748560207343510400633813116523624223735808000 from by decide] at HS
      refine hK.out _ _ (hH.trans hb1) (fun hH' => ?_)
      clear hK K hH
      have hH := hH'
      clear hH'
      try simp only [Act.put, List.setIfInBounds_toArray, List.set_cons_zero, List.set_cons_succ]
      refine wpAnyH_ready (rs := [3]) (by kernel_rfl) (by simp) ?_
      refine AllReadyH.cons (o := ?o3e11) ?h3e11 (fun K hK => ?_) AllReadyH.nil
      case h3e11 => simp only [List.getElem?_toArray, List.getElem?_cons_succ, List.getElem?_cons_zero]; rfl
      go_simp
      refine (mul_e _ _ hs hv8 _).mono ?_
      rintro e wb ⟨v, rfl, hv, HV, hb2⟩
      have HV' : Hid (v = pw x0 1809251394333065553493296640760748560207343510400633813116524750123642650623) := by unfold Hid; rw [HV.out]; have h1 := HS.out; have h2 := HV8.out; rw [h1, h2, pw_mul]
      refine hK.out _ _ (hH.trans hb2) (fun hH' => ?_)
      clear hK K hH
      have hH := hH'
      clear hH'
      try simp only [Act.put, List.setIfInBounds_toArray, List.set_cons_zero, List.set_cons_succ]
      have ON : Hid (Own wb W11.heap.size) := ((own_new W11.drew _ _ _ _ _).later hb1).later hb2
      have hle : W11.heap.size ≤ W11.heap.size := Nat.le_refl _
      have hs' : w.heap.size + 1 < W11.heap.size := by omega
      obtain ⟨⟨_, nc0⟩, ⟨_, nc1⟩, ⟨_, nc2⟩, ⟨_, nc3⟩, nf0, nf1, nf2, nf3⟩ := ON.out
      refine wpAnyH_ready (rs := [5]) (by kernel_rfl) (by simp) ?_
      refine AllReadyH.cons (o := ?o5e11) ?h5e11 (fun K hK => ?_) AllReadyH.nil
      case h5e11 => simp only [List.getElem?_toArray, List.getElem?_cons_succ, List.getElem?_cons_zero]; rfl
      go_simp
      refine hK.out _ _ (hH.set4 _ (by exact hle) _ _ _ _) (fun hH' => ?_)
      clear hK K hH
      have hH := hH'
      clear hH'
      try simp only [Act.put, List.setIfInBounds_toArray, List.set_cons_zero, List.set_cons_succ]
      refine wpAnyH_done (by kernel_rfl) ?_ _
      refine NoPanic.normal ?_
      go_wp2_with fail
      go_meet
      case rel => exact ⟨_, v, rfl, hv, HV', var_set wb _ v ON.out, hs', below_set4 ((Below.refl _ _).drew.trans (((bel1 W11.drew _).trans (hb1.mono (by simp))).trans (hb2.mono (by have := hb1.size; simp at this; exact Nat.le_of_succ_le this)))) _ (by exact hle) _ _ _ _⟩
  obtain ⟨b11, v11, rfl, hv11, HV11, Vm11, hlt11, hb⟩ := hcut
  replace Vm3 : Hid (Var wc (b3) v3) := Vm3.out.later hb.out
  replace OD : Hid (Own wc (w.heap.size + 1)) := OD.out.later hb.out
  replace HB : Hid (Below w.heap.size w wc) := HB.out.trans (hb.out.mono (by omega))
  replace hz : w.heap.size + 1 < wc.heap.size := by have := hb.out.size; omega
  clear hb Vm8 Vm10
  generalize wc = W12 at *
  go_upto_region 12 with fail
  obtain ⟨m11c0, m11c1, m11c2, m11c3⟩ := Vm11.out
  have m11u0 : ∀ u, ExtB (w.heap.size + 1) W12 u → u.cell? ⟨b11, 0, none⟩ = some (.int .u64 (e0 v11)) := fun u hu => hu.cell (by omega) m11c0
  have m11u1 : ∀ u, ExtB (w.heap.size + 1) W12 u → u.cell? ⟨b11, 1, none⟩ = some (.int .u64 (e1 v11)) := fun u hu => hu.cell (by omega) m11c1
  have m11u2 : ∀ u, ExtB (w.heap.size + 1) W12 u → u.cell? ⟨b11, 2, none⟩ = some (.int .u64 (e2 v11)) := fun u hu => hu.cell (by omega) m11c2
  have m11u3 : ∀ u, ExtB (w.heap.size + 1) W12 u → u.cell? ⟨b11, 3, none⟩ = some (.int .u64 (e3 v11)) := fun u hu => hu.cell (by omega) m11c3
  clear m11c0 m11c1 m11c2 m11c3
  obtain ⟨m3c0, m3c1, m3c2, m3c3⟩ := Vm3.out
  have m3u0 : ∀ u, ExtB (w.heap.size + 1) W12 u → u.cell? ⟨b3, 0, none⟩ = some (.int .u64 (e0 v3)) := fun u hu => hu.cell (by omega) m3c0
  have m3u1 : ∀ u, ExtB (w.heap.size + 1) W12 u → u.cell? ⟨b3, 1, none⟩ = some (.int .u64 (e1 v3)) := fun u hu => hu.cell (by omega) m3c1
  have m3u2 : ∀ u, ExtB (w.heap.size + 1) W12 u → u.cell? ⟨b3, 2, none⟩ = some (.int .u64 (e2 v3)) := fun u hu => hu.cell (by omega) m3c2
  have m3u3 : ∀ u, ExtB (w.heap.size + 1) W12 u → u.cell? ⟨b3, 3, none⟩ = some (.int .u64 (e3 v3)) := fun u hu => hu.cell (by omega) m3c3
  clear m3c0 m3c1 m3c2 m3c3
  refine wp_region_noPanic ?_
  refine wp_region_held_drew (S := ExtB (w.heap.size + 1) W12) (by kernel_rfl) (ExtB.refl _ _).drew (fun hH => ?_)
  refine wpAnyH_take (i := 0) (oi := ?o0r12) (v := ?v0r12) ?h0r12 (by kernel_rfl) ?f0r12 ?r0r12 (fun _ _ _ h => h) (Or.inl ⟨?w0r12, ?y0r12⟩) (by assumption) ?t0r12
  case h0r12 => simp only [List.getElem?_toArray, List.getElem?_cons_zero]; rfl
  case f0r12 => kernel_rfl
  case r0r12 => kernel_rfl
  case w0r12 => rfl
  case y0r12 => (intro u hu; (go_simp) <;> with_reducible rfl)
  try simp only [Act.put, List.setIfInBounds_toArray, List.set_cons_zero, List.set_cons_succ]
  refine wpAnyH_take (i := 2) (oi := ?o2r12) (v := ?v2r12) ?h2r12 (by kernel_rfl) ?f2r12 ?r2r12 (fun _ _ _ h => h) (Or.inl ⟨?w2r12, ?y2r12⟩) (by assumption) ?t2r12
  case h2r12 => simp only [List.getElem?_toArray, List.getElem?_cons_succ, List.getElem?_cons_zero]; rfl
  case f2r12 => kernel_rfl
  case r2r12 => kernel_rfl
  case w2r12 => rfl
  case y2r12 => (intro u hu; (go_simp) <;> with_reducible rfl)
  try simp only [Act.put, List.setIfInBounds_toArray, List.set_cons_zero, List.set_cons_succ]
  clear m11u0 m11u1 m11u2 m11u3 m3u0 m3u1 m3u2 m3u3
  refine wpAnyH_ready (rs := [1]) (by kernel_rfl) (by simp) ?_
  refine AllReadyH.cons (o := ?o1r12) ?h1r12 (fun K hK => ?_) AllReadyH.nil
  case h1r12 => simp only [List.getElem?_toArray, List.getElem?_cons_succ, List.getElem?_cons_zero]; rfl
  go_simp
  refine (squared_e x0 1809251394333065553493296640760748560207343510400633813116524750123642650623 5 (by decide) v11 hv11 HV11 _).mono ?_
  rintro e wa ⟨s, rfl, hs, HS, hb1⟩
  rw [show 1809251394333065553493296640760748560207343510400633813116524750123642650623 * 2 ^ 5 = 57896044618658097711785492504343953926634992332820282019728792003956564819936 from by decide] at HS
  refine hK.out _ _ (hH.trans hb1) (fun hH' => ?_)
  clear hK K hH
  have hH := hH'
  clear hH'
  try simp only [Act.put, List.setIfInBounds_toArray, List.set_cons_zero, List.set_cons_succ]
  refine wpAnyH_ready (rs := [3]) (by kernel_rfl) (by simp) ?_
  refine AllReadyH.cons (o := ?o3r12) ?h3r12 (fun K hK => ?_) AllReadyH.nil
  case h3r12 => simp only [List.getElem?_toArray, List.getElem?_cons_succ, List.getElem?_cons_zero]; rfl
  go_simp
  refine (mul_e _ _ hs hv3 _).mono ?_
  rintro e wb ⟨v, rfl, hv, HV, hb2⟩
  have HV' : Hid (v = pw x0 57896044618658097711785492504343953926634992332820282019728792003956564819947) := by unfold Hid; rw [HV.out]; have h1 := HS.out; have h2 := HV3.out; rw [h1, h2, pw_mul]
  refine hK.out _ _ (hH.trans hb2) (fun hH' => ?_)
  clear hK K hH
  have hH := hH'
  clear hH'
  try simp only [Act.put, List.setIfInBounds_toArray, List.set_cons_zero, List.set_cons_succ]
  have hb : Below W12.heap.size W12 wb := ((Below.refl _ _).drew.trans (hb1.mono (Nat.le_refl _))).trans (hb2.mono hb1.size)
  have OD' := OD.out.later hb
  obtain ⟨⟨_, dc0⟩, ⟨_, dc1⟩, ⟨_, dc2⟩, ⟨_, dc3⟩, df0, df1, df2, df3⟩ := OD'
  clear hb1 hb2 hb
  refine wpAnyH_ready (rs := [4]) (by kernel_rfl) (by simp) ?_
  refine AllReadyH.cons (o := ?o4s12) ?h4s12 (fun K hK => ?_) AllReadyH.nil
  case h4s12 => simp only [List.getElem?_toArray, List.getElem?_cons_succ, List.getElem?_cons_zero]; rfl
  go_simp
  refine hK.out _ _ ((((hH.set _ _).set _ _).set _ _).set _ _) (fun hH' => ?_)
  clear hK K hH
  have hH := hH'
  clear hH'
  try simp only [Act.put, List.setIfInBounds_toArray, List.set_cons_zero, List.set_cons_succ]
  refine wpAnyH_done (by kernel_rfl) ?_ _
  refine NoPanic.normal ?_
  go_wp2
  refine bodyPost_ret (v := (.agg #[.int .u64 (e0 v), .int .u64 (e1 v), .int .u64 (e2 v), .int .u64 (e3 v)])) (by simp [results, Tryd.results14, go_sem, dc0, dc1, dc2, dc3]) rfl ⟨_, rfl, hv, HV', ?_⟩
  exact hH.below HB.out (by omega)
theorem invert_e (x : Int) (hx : El x) (w : World) :
    Calls Tryd.prog 14 #[(.agg #[.int .u64 (e0 x), .int .u64 (e1 x), .int .u64 (e2 x), .int .u64 (e3 x)])] w fun e w' => ∃ z, e = .returned (.agg #[.int .u64 (e0 z), .int .u64 (e1 z), .int .u64 (e2 z), .int .u64 (e3 z)]) ∧ El z ∧ Hid (z = pw x 57896044618658097711785492504343953926634992332820282019728792003956564819947) ∧ Below w.heap.size w w' :=
  invert_g x x hx (pw_one x hx).symm w
end Go.Proofs.YtggjifpcoidipaaDoor
