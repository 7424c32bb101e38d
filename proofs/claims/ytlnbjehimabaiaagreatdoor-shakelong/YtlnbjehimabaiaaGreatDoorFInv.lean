/-
 What field's Invert does: the power p - 2, for whatever number below p. No statement of the seat is proved here.
-/
import Derived.Test.YtlnbjehimabaiaaGreatDoorPk21
import Derived.Test.YtlnbjehimabaiaaGreatDoorPk1
namespace Go.Proofs.YtlnbjehimabaiaaGreatDoor.Fc
open Go.RowKit
set_option maxRecDepth 8000

/-- A variable of its own in memory that holds a number. -/
structure Var (u : World) (b : Nat) (v : Int) : Prop where
 c0 : u.cell? ⟨b, 0, none⟩ = some (.int .u64 (e0 v))
 c1 : u.cell? ⟨b, 1, none⟩ = some (.int .u64 (e1 v))
 c2 : u.cell? ⟨b, 2, none⟩ = some (.int .u64 (e2 v))
 c3 : u.cell? ⟨b, 3, none⟩ = some (.int .u64 (e3 v))
theorem Var.later {u u' : World} {b : Nat} {v : Int} (h : Var u b v) (hb : Below u.heap.size u u') : Var u' b v := ⟨cell_later hb h.c0, cell_later hb h.c1, cell_later hb h.c2, cell_later hb h.c3⟩
/-- A variable that may be written. -/
structure Own (u : World) (b : Nat) : Prop where
 c0 : ∃ x, u.cell? ⟨b, 0, none⟩ = some x
 c1 : ∃ x, u.cell? ⟨b, 1, none⟩ = some x
 c2 : ∃ x, u.cell? ⟨b, 2, none⟩ = some x
 c3 : ∃ x, u.cell? ⟨b, 3, none⟩ = some x
 f0 : u.frozen? ⟨b, 0, none⟩ = false
 f1 : u.frozen? ⟨b, 1, none⟩ = false
 f2 : u.frozen? ⟨b, 2, none⟩ = false
 f3 : u.frozen? ⟨b, 3, none⟩ = false
theorem Own.lt {u : World} {b : Nat} (h : Own u b) : b < u.heap.size := by
 obtain ⟨x, hx⟩ := h.c0
 exact World.block_lt_of_cell? u _ hx
theorem Own.later {u u' : World} {b : Nat} (h : Own u b) (hb : Below u.heap.size u u') : Own u' b :=
 ⟨h.c0.elim fun x hx => ⟨x, cell_later hb hx⟩, h.c1.elim fun x hx => ⟨x, cell_later hb hx⟩, h.c2.elim fun x hx => ⟨x, cell_later hb hx⟩, h.c3.elim fun x hx => ⟨x, cell_later hb hx⟩,
  froz_later hb h.lt h.f0, froz_later hb h.lt h.f1, froz_later hb h.lt h.f2, froz_later hb h.lt h.f3⟩
theorem own_new (u : World) (x0 x1 x2 x3 : Value) (t : TypeId) : Own (u.alloc (.cells #[x0, x1, x2, x3] t)) u.heap.size :=
 ⟨⟨x0, by simp [go_sem]⟩, ⟨x1, by simp [go_sem]⟩, ⟨x2, by simp [go_sem]⟩, ⟨x3, by simp [go_sem]⟩, by simp [go_sem], by simp [go_sem], by simp [go_sem], by simp [go_sem]⟩
theorem var_new (u : World) (v : Int) (t : TypeId) : Var (u.alloc (.cells (ea v) t)) u.heap.size v :=
 ⟨by simp [go_sem], by simp [go_sem], by simp [go_sem], by simp [go_sem]⟩
theorem var_set (u : World) (b : Nat) (v : Int) (h : Own u b) : Var ((((u.setCell ⟨b, 0, none⟩ (.int .u64 (e0 v))).setCell ⟨b, 1, none⟩ (.int .u64 (e1 v))).setCell ⟨b, 2, none⟩ (.int .u64 (e2 v))).setCell ⟨b, 3, none⟩ (.int .u64 (e3 v))) b v := by
 obtain ⟨⟨x0, h0⟩, ⟨x1, h1⟩, ⟨x2, h2⟩, ⟨x3, h3⟩, _⟩ := h
 exact ⟨by simp [go_sem, h0], by simp [go_sem, h1], by simp [go_sem, h2], by simp [go_sem, h3]⟩

theorem ExtB.set4 {b : Nat} {a u : World} (h : ExtB b a u) (n : Nat) (hn : a.heap.size ≤ n) (v0 v1 v2 v3 : Value) : ExtB b a ((((u.setCell ⟨n, 0, none⟩ v0).setCell ⟨n, 1, none⟩ v1).setCell ⟨n, 2, none⟩ v2).setCell ⟨n, 3, none⟩ v3) :=
 (((h.setNew _ hn _).setNew _ hn _).setNew _ hn _).setNew _ hn _
theorem below_set4 {B : Nat} {a u : World} (h : Below B a u) (n : Nat) (hn : B ≤ n) (v0 v1 v2 v3 : Value) : Below B a ((((u.setCell ⟨n, 0, none⟩ v0).setCell ⟨n, 1, none⟩ v1).setCell ⟨n, 2, none⟩ v2).setCell ⟨n, 3, none⟩ v3) :=
 (((h.setCell (p := ⟨n, 0, none⟩) hn _).setCell (p := ⟨n, 1, none⟩) hn _).setCell (p := ⟨n, 2, none⟩) hn _).setCell (p := ⟨n, 3, none⟩) hn _

theorem ev_same {a : Act} {d : Nat} {v : Value} (h : d < a.tmps.size) : (a.put (some d) v).eval (.tmp d) = v := by simp [Act.put, Act.eval, h]
theorem ev_other {a : Act} {d e : Nat} {v : Value} (h : d ≠ e) : (a.put (some d) v).eval (.tmp e) = a.eval (.tmp e) := by simp [Act.put, Act.eval, Array.getElem?_setIfInBounds_ne h]
theorem size_put {a : Act} {d : Option Nat} {v : Value} : (a.put d v).tmps.size = a.tmps.size := by cases d <;> simp [Act.put]
theorem put_comm {a : Act} {i j : Nat} {x y : Value} (h : i ≠ j) : (a.put (some i) x).put (some j) y = (a.put (some j) y).put (some i) x := by simp [Act.put, Array.setIfInBounds_comm _ _ h]
abbrev iops (p q d0 d1 d2 d3 d : Nat) (n : Int) (s0 s1 s2 s3 s4 s5 : String) : Array Oper := #[{ dst := some d0, op := .load 101 (.tmp p), type := 101, pos := s0, after := #[], guard := none },
  { dst := some d1, op := .call { callee := .value (.func 100), args := #[.tmp d0, .const (.int .i64 n)], argTypes := #[101, 3] }, type := 101, pos := s1, after := #[{ on := 0, ground := .data }], guard := none },
  { dst := some d2, op := .load 101 (.tmp q), type := 101, pos := s2, after := #[], guard := none },
  { dst := some d3, op := .call { callee := .value (.func 70), args := #[.tmp d1, .tmp d2], argTypes := #[101, 101] }, type := 101, pos := s3, after := #[{ on := 1, ground := .data }, { on := 2, ground := .data }, { on := 1, ground := .chain }], guard := none },
  { dst := some d, op := .alloc 101, type := 0, pos := s4, after := #[], guard := none },
  { dst := none, op := .store 101 (.tmp d) (.tmp d3), type := 0, pos := s5, after := #[{ on := 4, ground := .data }, { on := 3, ground := .data }, { on := 3, ground := .chain }, { on := 0, ground := .phase }, { on := 1, ground := .phase }, { on := 2, ground := .phase }, { on := 3, ground := .phase }, { on := 4, ground := .phase }], guard := none }]
set_option maxHeartbeats 1000000 in
theorem inv_reg {rg p q d0 d1 d2 d3 d : Nat} {n : Int} {s0 s1 s2 s3 s4 s5 : String} {a : Act} {w : World} {Q : Exit → Act → World → Prop} (b1 b2 : Nat) (x0 x y : Int) (m k : Nat) (hk : n = k) (hk1 : k ≤ 1000) (HP : Hid (x = pw x0 m)) (hx : El x) (hy : El y)
  (hp : a.eval (.tmp p) = .pointer (some ⟨b1, 0, none⟩)) (hq : a.eval (.tmp q) = .pointer (some ⟨b2, 0, none⟩)) (hX : Var w b1 x) (hY : Var w b2 y)
  (h : ∀ (w' : World) (b : Nat) (s v : Int) (z0 z1 z2 z3 : Value), El v → Hid (s = pw x0 (m * 2 ^ k)) → Hid (v = s * y % 57896044618658097711785492504343953926634992332820282019728792003956564819949) → Var w' b v → w.heap.size ≤ b → Below w.heap.size w w' → Q .normal (((((a.put (some d0) z0).put (some d2) z2).put (some d1) z1).put (some d3) z3).put (some d) (.pointer (some ⟨b, 0, none⟩))) w')
  (hd0 : Nat.blt d0 a.tmps.size = true := by kernel_rfl) (hd1 : Nat.blt d1 a.tmps.size = true := by kernel_rfl) (hd2 : Nat.blt d2 a.tmps.size = true := by kernel_rfl) (hd3 : Nat.blt d3 a.tmps.size = true := by kernel_rfl) (hd : Nat.blt d a.tmps.size = true := by kernel_rfl)
  (hn : [d0, d1, d2, d3, d].Nodup := by decide) (hnq : d0 ≠ q := by decide)
  (f0 : Region.free .any (iops p q d0 d1 d2 d3 d n s0 s1 s2 s3 s4 s5) #[false, false, false, false, false, false] 0 = true := by kernel_rfl) (f2 : Region.free .any (iops p q d0 d1 d2 d3 d n s0 s1 s2 s3 s4 s5) #[true, false, false, false, false, false] 2 = true := by kernel_rfl) :
  (Code.region rg #[{ dst := some d0, op := .load 101 (.tmp p), type := 101, pos := s0, after := #[], guard := none },
  { dst := some d1, op := .call { callee := .value (.func 100), args := #[.tmp d0, .const (.int .i64 n)], argTypes := #[101, 3] }, type := 101, pos := s1, after := #[{ on := 0, ground := .data }], guard := none },
  { dst := some d2, op := .load 101 (.tmp q), type := 101, pos := s2, after := #[], guard := none },
  { dst := some d3, op := .call { callee := .value (.func 70), args := #[.tmp d1, .tmp d2], argTypes := #[101, 101] }, type := 101, pos := s3, after := #[{ on := 1, ground := .data }, { on := 2, ground := .data }, { on := 1, ground := .chain }], guard := none },
  { dst := some d, op := .alloc 101, type := 0, pos := s4, after := #[], guard := none },
  { dst := none, op := .store 101 (.tmp d) (.tmp d3), type := 0, pos := s5, after := #[{ on := 4, ground := .data }, { on := 3, ground := .data }, { on := 3, ground := .chain }, { on := 0, ground := .phase }, { on := 1, ground := .phase }, { on := 2, ground := .phase }, { on := 3, ground := .phase }, { on := 4, ground := .phase }], guard := none }] true).wp Tryz.prog Q a w := by
 rw [Nat.blt_eq] at hd0 hd1 hd2 hd3 hd
 simp only [List.nodup_cons, List.mem_cons, List.not_mem_nil, or_false, not_or] at hn
 obtain ⟨⟨n01, n02, n03, n04⟩, ⟨n12, n13, n14⟩, ⟨n23, n24⟩, n34, -⟩ := hn
 refine wp_region_noPanic ?_
 refine wp_region_held_drew (S := Below w.heap.size w) (by kernel_rfl) (Below.refl _ _).drew (fun hH => ?_)
 change wpAnyH _ _ _ _ _ _ #[false, false, false, false, false, false] _ _
 have hWd : Below w.heap.size w w.drew := (Below.refl _ _).drew
 refine tn 0 ?_ (hf := f0) (hb := rfl) (hy := by
  intro u hu
  obtain ⟨c0, c1, c2, c3⟩ := hX.later hu
  simp only [execOp, hp]
  go_simp
  rfl)
 refine tn 2 ?_ (hf := f2) (hb := rfl) (hy := by
  intro u hu
  obtain ⟨c0, c1, c2, c3⟩ := hY.later hu
  simp only [execOp, ev_other hnq, hq]
  go_simp
  rfl)
 have gs : ∀ (t : Array Value) (v : Value) (i j : Nat) (h : j < (t.setIfInBounds i v).size), (t.setIfInBounds i v)[j] = if i = j then v else t[j]'(by simpa using h) := fun t v i j h => Array.getElem_setIfInBounds ..
 have m01 := Ne.symm n01
 have m02 := Ne.symm n02
 have m03 := Ne.symm n03
 have m04 := Ne.symm n04
 have m12 := Ne.symm n12
 have m13 := Ne.symm n13
 have m14 := Ne.symm n14
 have m23 := Ne.symm n23
 have m24 := Ne.symm n24
 have m34 := Ne.symm n34
 clear f0 f2
 refine rdy2 1 4 (fun K hK => ?c1) (fun K hK => ?c4)
 case c1 =>
  go_simp
  refine (squared_e x0 m k hk1 x hx HP _).mono ?_
  rintro e wa ⟨s, rfl, hs, HS, hb1⟩
  refine ko hK (hH.trans (hb1.mono hH.size)) fun hH => ?_; clear hK K
  refine rdy2 3 4 (fun K hK => ?d3) (fun K hK => ?d4)
  case d3 =>
   go_simp
   refine (mul_e _ _ hs hy _).mono ?_
   rintro e wb ⟨v, rfl, hv, HV, hb2⟩
   refine ko hK (hH.trans (hb2.mono hH.size)) fun hH => ?_; clear hK K
   refine rdy 4 (fun K hK => ?_)
   go_simp
   have hHa := hH
   refine ko hK (hHa.alloc hHa.size _) fun hH => ?_; clear hK K
   refine rdy 5 (fun K hK => ?_)
   go_simp
   refine ko hK (hHa.alloc hHa.size _) fun hH => ?_; clear hK K
   refine wpAnyH_done (by kernel_rfl) ?_ _
   refine NoPanic.normal ?_
   exact h _ _ s v _ _ _ _ hv HS HV (var_new wb v _) hHa.size hH
  case d4 =>
   go_simp
   have hLE := hH.size
   refine ko hK (hH.alloc hH.size _) fun hH => ?_; clear hK K
   refine rdy 3 (fun K hK => ?_)
   go_simp
   refine (mul_e _ _ hs hy _).mono ?_
   rintro e wb ⟨v, rfl, hv, HV, hb2⟩
   refine ko hK (hH.trans (hb2.mono hH.size)) fun hH => ?_; clear hK K
   have ON := (own_new wa _ _ _ _ _).later hb2
   have hle : w.heap.size ≤ wa.heap.size := hLE
   obtain ⟨⟨_, nc0⟩, ⟨_, nc1⟩, ⟨_, nc2⟩, ⟨_, nc3⟩, nf0, nf1, nf2, nf3⟩ := id ON
   refine rdy 5 (fun K hK => ?_)
   go_simp
   refine ko hK (below_set4 hH _ hle _ _ _ _) fun hH => ?_; clear hK K
   refine wpAnyH_done (by kernel_rfl) ?_ _
   refine NoPanic.normal ?_
   rw [Array.setIfInBounds_comm (i := d) (j := d3) _ _ m34]
   exact h _ _ s v _ _ _ _ hv HS HV (var_set wb _ v ON) hle hH
 case c4 =>
  go_simp
  refine ko hK (hH.alloc hH.size _) fun hH => ?_; clear hK K
  refine rdy 1 (fun K hK => ?_)
  go_simp
  refine (squared_e x0 m k hk1 x hx HP _).mono ?_
  rintro e wa ⟨s, rfl, hs, HS, hb1⟩
  refine ko hK (hH.trans (hb1.mono hH.size)) fun hH => ?_; clear hK K
  refine rdy 3 (fun K hK => ?_)
  go_simp
  refine (mul_e _ _ hs hy _).mono ?_
  rintro e wb ⟨v, rfl, hv, HV, hb3⟩
  have hb2 := hb1.trans (hb3.mono hb1.size)
  refine ko hK (hH.trans (hb3.mono hH.size)) fun hH => ?_; clear hK K
  have ON : Own wb w.heap.size := (own_new w.drew _ _ _ _ _).later hb2
  have hle : w.heap.size ≤ w.heap.size := Nat.le_refl _
  obtain ⟨⟨_, nc0⟩, ⟨_, nc1⟩, ⟨_, nc2⟩, ⟨_, nc3⟩, nf0, nf1, nf2, nf3⟩ := id ON
  refine rdy 5 (fun K hK => ?_)
  go_simp
  refine ko hK (below_set4 hH _ hle _ _ _ _) fun hH => ?_; clear hK K
  refine wpAnyH_done (by kernel_rfl) ?_ _
  refine NoPanic.normal ?_
  rw [Array.setIfInBounds_comm (i := d) (j := d1) _ _ m14, Array.setIfInBounds_comm (i := d) (j := d3) _ _ m34]
  exact h _ _ s v _ _ _ _ hv HS HV (var_set wb _ v ON) hle hH
set_option maxHeartbeats 4000000 in
theorem invert_g (x0 x : Int) (hx : El x) (HX : Hid (x = pw x0 1)) (w : World) :
  Calls Tryz.prog 71 #[(.agg (ea x))] w fun e w' => ∃ z, e = .returned (.agg (ea z)) ∧ El z ∧ Hid (z = pw x0 57896044618658097711785492504343953926634992332820282019728792003956564819947) ∧ Below w.heap.size w w' := by
 go_enter Tryz.func71, Tryz.ntmps71
 go_upto_region 1 with fail
 refine letter fun W1 hW => ?_
 have Va : Hid (Var W1 (w.heap.size) x) := by unfold Hid; rw [hW]; exact (var_new w x _).later (bel1 _ _)
 have OD : Hid (Own W1 (w.heap.size + 1)) := by unfold Hid; rw [hW]; simpa using own_new (w.alloc _) (.int .u64 0) (.int .u64 0) (.int .u64 0) (.int .u64 0) 101
 have HB : Hid (Below w.heap.size w W1) := by unfold Hid; rw [hW]; exact bel2 _ _ _
 clear hW
 go_cut [3] from 14 (fun tv wc => ∃ (b : Nat) (v : Int), tv = .pointer (some ⟨b, 0, none⟩) ∧ El v ∧ Hid (v = pw x0 2) ∧ Hid (Var wc b v) ∧ w.heap.size + 1 < b ∧ Hid (Below W1.heap.size W1 wc))
 case first =>
  obtain ⟨ac0, ac1, ac2, ac3⟩ := Va.out
  go_wp2_with fail
  refine (mul_e _ _ hx hx _).mono ?_
  rintro e wb ⟨v, rfl, hv, HV, hb⟩
  have HV' : Hid (v = pw x0 2) := by unfold Hid; rw [HV.out]; have h1 := HX.out; rw [h1, pw_mul]
  have hs : w.heap.size + 1 < wb.heap.size := Nat.lt_of_lt_of_le OD.out.lt hb.size
  go_wp2_with fail
  go_meet
  case rel => exact ⟨wb.heap.size, v, rfl, hv, HV', var_new wb v _, hs, hb.trans ((bel1 wb _).mono hb.size)⟩
 obtain ⟨b1, v1, rfl, hv1, HV1, Vm1, hlt1, hb⟩ := hcut
 replace Va := hidp (Va.out.later hb.out)
 replace OD := hidp (OD.out.later hb.out)
 replace HB := hidp (HB.out.trans (hb.out.mono HB.out.size))
 clear hb 
 generalize wc = W2 at *
 go_upto_region 2 with fail
 refine inv_reg b1 w.heap.size x0 v1 x 2 2 rfl (by decide) HV1 hv1 hx rfl rfl Vm1.out Va.out (fun wc b2 s v2 z0 z1 z2 z3 hv2 HS HV2 Vm2 hlt hb => ?_)
 have hlt2 : w.heap.size + 1 < b2 := Nat.lt_of_lt_of_le OD.out.lt hlt
 clear hlt
 replace HV2 : Hid (v2 = pw x0 9) := by unfold Hid; rw [HV2.out, HS.out, show 2 * 2 ^ 2 = 8 from by decide, HX.out, pw_mul]
 clear HS s
 simp only [Act.put, List.setIfInBounds_toArray, List.set_cons_zero, List.set_cons_succ]
 replace Vm1 := hidp (Vm1.out.later hb)
 replace OD := hidp (OD.out.later hb)
 replace HB := hidp (HB.out.trans (hb.mono HB.out.size))
 clear hb Va
 replace Vm2 : Hid (Var wc b2 v2) := Vm2
 generalize wc = W3 at *
 go_upto_region 3 with fail
 go_cut [5] from 14 (fun tv wc => ∃ (b : Nat) (v : Int), tv = .pointer (some ⟨b, 0, none⟩) ∧ El v ∧ Hid (v = pw x0 11) ∧ Hid (Var wc b v) ∧ w.heap.size + 1 < b ∧ Hid (Below W3.heap.size W3 wc))
 case first =>
  obtain ⟨m2c0, m2c1, m2c2, m2c3⟩ := Vm2.out
  obtain ⟨m1c0, m1c1, m1c2, m1c3⟩ := Vm1.out
  go_wp2_with fail
  refine (mul_e _ _ hv2 hv1 _).mono ?_
  rintro e wb ⟨v, rfl, hv, HV, hb⟩
  have HV' : Hid (v = pw x0 11) := by unfold Hid; rw [HV.out]; have h1 := HV2.out; have h2 := HV1.out; rw [h1, h2, pw_mul]
  have hs : w.heap.size + 1 < wb.heap.size := Nat.lt_of_lt_of_le OD.out.lt hb.size
  go_wp2_with fail
  go_meet
  case rel => exact ⟨wb.heap.size, v, rfl, hv, HV', var_new wb v _, hs, hb.trans ((bel1 wb _).mono hb.size)⟩
 obtain ⟨b3, v3, rfl, hv3, HV3, Vm3, hlt3, hb⟩ := hcut
 replace Vm2 := hidp (Vm2.out.later hb.out)
 replace OD := hidp (OD.out.later hb.out)
 replace HB := hidp (HB.out.trans (hb.out.mono HB.out.size))
 clear hb Vm1
 generalize wc = W4 at *
 go_upto_region 4 with fail
 refine inv_reg b3 b2 x0 v3 v2 11 1 rfl (by decide) HV3 hv3 hv2 rfl rfl Vm3.out Vm2.out (fun wc b4 s v4 z0 z1 z2 z3 hv4 HS HV4 Vm4 hlt hb => ?_)
 have hlt4 : w.heap.size + 1 < b4 := Nat.lt_of_lt_of_le OD.out.lt hlt
 clear hlt
 replace HV4 : Hid (v4 = pw x0 31) := by unfold Hid; rw [HV4.out, HS.out, show 11 * 2 ^ 1 = 22 from by decide, HV2.out, pw_mul]
 clear HS s
 simp only [Act.put, List.setIfInBounds_toArray, List.set_cons_zero, List.set_cons_succ]
 replace Vm3 := hidp (Vm3.out.later hb)
 replace OD := hidp (OD.out.later hb)
 replace HB := hidp (HB.out.trans (hb.mono HB.out.size))
 clear hb Vm2
 replace Vm4 : Hid (Var wc b4 v4) := Vm4
 generalize wc = W5 at *
 go_upto_region 5 with fail
 refine inv_reg b4 b4 x0 v4 v4 31 5 rfl (by decide) HV4 hv4 hv4 rfl rfl Vm4.out Vm4.out (fun wc b5 s v5 z0 z1 z2 z3 hv5 HS HV5 Vm5 hlt hb => ?_)
 have hlt5 : w.heap.size + 1 < b5 := Nat.lt_of_lt_of_le OD.out.lt hlt
 clear hlt
 replace HV5 : Hid (v5 = pw x0 1023) := by unfold Hid; rw [HV5.out, HS.out, show 31 * 2 ^ 5 = 992 from by decide, HV4.out, pw_mul]
 clear HS s
 simp only [Act.put, List.setIfInBounds_toArray, List.set_cons_zero, List.set_cons_succ]
 replace Vm3 := hidp (Vm3.out.later hb)
 replace OD := hidp (OD.out.later hb)
 replace HB := hidp (HB.out.trans (hb.mono HB.out.size))
 clear hb Vm4
 replace Vm5 : Hid (Var wc b5 v5) := Vm5
 generalize wc = W6 at *
 go_upto_region 6 with fail
 refine inv_reg b5 b5 x0 v5 v5 1023 10 rfl (by decide) HV5 hv5 hv5 rfl rfl Vm5.out Vm5.out (fun wc b6 s v6 z0 z1 z2 z3 hv6 HS HV6 Vm6 hlt hb => ?_)
 have hlt6 : w.heap.size + 1 < b6 := Nat.lt_of_lt_of_le OD.out.lt hlt
 clear hlt
 replace HV6 : Hid (v6 = pw x0 1048575) := by unfold Hid; rw [HV6.out, HS.out, show 1023 * 2 ^ 10 = 1047552 from by decide, HV5.out, pw_mul]
 clear HS s
 simp only [Act.put, List.setIfInBounds_toArray, List.set_cons_zero, List.set_cons_succ]
 replace Vm3 := hidp (Vm3.out.later hb)
 replace Vm5 := hidp (Vm5.out.later hb)
 replace OD := hidp (OD.out.later hb)
 replace HB := hidp (HB.out.trans (hb.mono HB.out.size))
 clear hb 
 replace Vm6 : Hid (Var wc b6 v6) := Vm6
 generalize wc = W7 at *
 go_upto_region 7 with fail
 refine inv_reg b6 b6 x0 v6 v6 1048575 20 rfl (by decide) HV6 hv6 hv6 rfl rfl Vm6.out Vm6.out (fun wc b7 s v7 z0 z1 z2 z3 hv7 HS HV7 Vm7 hlt hb => ?_)
 have hlt7 : w.heap.size + 1 < b7 := Nat.lt_of_lt_of_le OD.out.lt hlt
 clear hlt
 replace HV7 : Hid (v7 = pw x0 1099511627775) := by unfold Hid; rw [HV7.out, HS.out, show 1048575 * 2 ^ 20 = 1099510579200 from by decide, HV6.out, pw_mul]
 clear HS s
 simp only [Act.put, List.setIfInBounds_toArray, List.set_cons_zero, List.set_cons_succ]
 replace Vm3 := hidp (Vm3.out.later hb)
 replace Vm5 := hidp (Vm5.out.later hb)
 replace OD := hidp (OD.out.later hb)
 replace HB := hidp (HB.out.trans (hb.mono HB.out.size))
 clear hb Vm6
 replace Vm7 : Hid (Var wc b7 v7) := Vm7
 generalize wc = W8 at *
 go_upto_region 8 with fail
 refine inv_reg b7 b5 x0 v7 v5 1099511627775 10 rfl (by decide) HV7 hv7 hv5 rfl rfl Vm7.out Vm5.out (fun wc b8 s v8 z0 z1 z2 z3 hv8 HS HV8 Vm8 hlt hb => ?_)
 have hlt8 : w.heap.size + 1 < b8 := Nat.lt_of_lt_of_le OD.out.lt hlt
 clear hlt
 replace HV8 : Hid (v8 = pw x0 1125899906842623) := by unfold Hid; rw [HV8.out, HS.out, show 1099511627775 * 2 ^ 10 = 1125899906841600 from by decide, HV5.out, pw_mul]
 clear HS s
 simp only [Act.put, List.setIfInBounds_toArray, List.set_cons_zero, List.set_cons_succ]
 replace Vm3 := hidp (Vm3.out.later hb)
 replace OD := hidp (OD.out.later hb)
 replace HB := hidp (HB.out.trans (hb.mono HB.out.size))
 clear hb Vm5 Vm7
 replace Vm8 : Hid (Var wc b8 v8) := Vm8
 generalize wc = W9 at *
 go_upto_region 9 with fail
 refine inv_reg b8 b8 x0 v8 v8 1125899906842623 50 rfl (by decide) HV8 hv8 hv8 rfl rfl Vm8.out Vm8.out (fun wc b9 s v9 z0 z1 z2 z3 hv9 HS HV9 Vm9 hlt hb => ?_)
 have hlt9 : w.heap.size + 1 < b9 := Nat.lt_of_lt_of_le OD.out.lt hlt
 clear hlt
 replace HV9 : Hid (v9 = pw x0 1267650600228229401496703205375) := by unfold Hid; rw [HV9.out, HS.out, show 1125899906842623 * 2 ^ 50 = 1267650600228228275596796362752 from by decide, HV8.out, pw_mul]
 clear HS s
 simp only [Act.put, List.setIfInBounds_toArray, List.set_cons_zero, List.set_cons_succ]
 replace Vm3 := hidp (Vm3.out.later hb)
 replace Vm8 := hidp (Vm8.out.later hb)
 replace OD := hidp (OD.out.later hb)
 replace HB := hidp (HB.out.trans (hb.mono HB.out.size))
 clear hb 
 replace Vm9 : Hid (Var wc b9 v9) := Vm9
 generalize wc = W10 at *
 go_upto_region 10 with fail
 refine inv_reg b9 b9 x0 v9 v9 1267650600228229401496703205375 100 rfl (by decide) HV9 hv9 hv9 rfl rfl Vm9.out Vm9.out (fun wc b10 s v10 z0 z1 z2 z3 hv10 HS HV10 Vm10 hlt hb => ?_)
 have hlt10 : w.heap.size + 1 < b10 := Nat.lt_of_lt_of_le OD.out.lt hlt
 clear hlt
 replace HV10 : Hid (v10 = pw x0 1606938044258990275541962092341162602522202993782792835301375) := by unfold Hid; rw [HV10.out, HS.out, show 1267650600228229401496703205375 * 2 ^ 100 = 1606938044258990275541962092339894951921974764381296132096000 from by decide, HV9.out, pw_mul]
 clear HS s
 simp only [Act.put, List.setIfInBounds_toArray, List.set_cons_zero, List.set_cons_succ]
 replace Vm3 := hidp (Vm3.out.later hb)
 replace Vm8 := hidp (Vm8.out.later hb)
 replace OD := hidp (OD.out.later hb)
 replace HB := hidp (HB.out.trans (hb.mono HB.out.size))
 clear hb Vm9
 replace Vm10 : Hid (Var wc b10 v10) := Vm10
 generalize wc = W11 at *
 go_upto_region 11 with fail
 refine inv_reg b10 b8 x0 v10 v8 1606938044258990275541962092341162602522202993782792835301375 50 rfl (by decide) HV10 hv10 hv8 rfl rfl Vm10.out Vm8.out (fun wc b11 s v11 z0 z1 z2 z3 hv11 HS HV11 Vm11 hlt hb => ?_)
 have hlt11 : w.heap.size + 1 < b11 := Nat.lt_of_lt_of_le OD.out.lt hlt
 clear hlt
 replace HV11 : Hid (v11 = pw x0 1809251394333065553493296640760748560207343510400633813116524750123642650623) := by unfold Hid; rw [HV11.out, HS.out, show 1606938044258990275541962092341162602522202993782792835301375 * 2 ^ 50 = 1809251394333065553493296640760748560207343510400633813116523624223735808000 from by decide, HV8.out, pw_mul]
 clear HS s
 simp only [Act.put, List.setIfInBounds_toArray, List.set_cons_zero, List.set_cons_succ]
 replace Vm3 := hidp (Vm3.out.later hb)
 replace OD := hidp (OD.out.later hb)
 replace HB := hidp (HB.out.trans (hb.mono HB.out.size))
 clear hb Vm8 Vm10
 replace Vm11 : Hid (Var wc b11 v11) := Vm11
 generalize wc = W12 at *
 go_upto_region 12 with fail
 obtain ⟨m11c0, m11c1, m11c2, m11c3⟩ := Vm11.out
 have m11u0 : ∀ u, ExtB (w.heap.size + 1) W12 u → u.cell? ⟨b11, 0, none⟩ = some (.int .u64 (e0 v11)) := fun u hu => hu.cell (by omega) m11c0
 have m11u1 : ∀ u, ExtB (w.heap.size + 1) W12 u → u.cell? ⟨b11, 1, none⟩ = some (.int .u64 (e1 v11)) := fun u hu => hu.cell (by omega) m11c1
 have m11u2 : ∀ u, ExtB (w.heap.size + 1) W12 u → u.cell? ⟨b11, 2, none⟩ = some (.int .u64 (e2 v11)) := fun u hu => hu.cell (by omega) m11c2
 have m11u3 : ∀ u, ExtB (w.heap.size + 1) W12 u → u.cell? ⟨b11, 3, none⟩ = some (.int .u64 (e3 v11)) := fun u hu => hu.cell (by omega) m11c3
 clear m11c0 m11c1 m11c2 m11c3
 obtain ⟨m3c0, m3c1, m3c2, m3c3⟩ := Vm3.out
 have m3u0 : ∀ u, ExtB (w.heap.size + 1) W12 u → u.cell? ⟨b3, 0, none⟩ = some (.int .u64 (e0 v3)) := fun u hu => hu.cell (by omega) m3c0
 have m3u1 : ∀ u, ExtB (w.heap.size + 1) W12 u → u.cell? ⟨b3, 1, none⟩ = some (.int .u64 (e1 v3)) := fun u hu => hu.cell (by omega) m3c1
 have m3u2 : ∀ u, ExtB (w.heap.size + 1) W12 u → u.cell? ⟨b3, 2, none⟩ = some (.int .u64 (e2 v3)) := fun u hu => hu.cell (by omega) m3c2
 have m3u3 : ∀ u, ExtB (w.heap.size + 1) W12 u → u.cell? ⟨b3, 3, none⟩ = some (.int .u64 (e3 v3)) := fun u hu => hu.cell (by omega) m3c3
 clear m3c0 m3c1 m3c2 m3c3
 refine wp_region_noPanic ?_
 refine wp_region_held_drew (S := ExtB (w.heap.size + 1) W12) (by kernel_rfl) (ExtB.refl _ _).drew (fun hH => ?_)
 refine tn 0 ?_
 refine tn 2 ?_
 clear m11u0 m11u1 m11u2 m11u3 m3u0 m3u1 m3u2 m3u3
 refine rdy 1 (fun K hK => ?_)
 go_simp
 refine (squared_e x0 1809251394333065553493296640760748560207343510400633813116524750123642650623 5 (by decide) v11 hv11 HV11 _).mono ?_
 rintro e wa ⟨s, rfl, hs, HS, hb1⟩
 rw [show 1809251394333065553493296640760748560207343510400633813116524750123642650623 * 2 ^ 5 = 57896044618658097711785492504343953926634992332820282019728792003956564819936 from by decide] at HS
 refine kop hK (hH.trans hb1) fun hH => ?_; clear hK K
 refine rdy 3 (fun K hK => ?_)
 go_simp
 refine (mul_e _ _ hs hv3 _).mono ?_
 rintro e wb ⟨v, rfl, hv, HV, hb2⟩
 have HV' : Hid (v = pw x0 57896044618658097711785492504343953926634992332820282019728792003956564819947) := by unfold Hid; rw [HV.out]; have h1 := HS.out; have h2 := HV3.out; rw [h1, h2, pw_mul]
 refine kop hK (hH.trans hb2) fun hH => ?_; clear hK K
 have hb : Below W12.heap.size W12 wb := ((Below.refl _ _).drew.trans (hb1.mono (Nat.le_refl _))).trans (hb2.mono hb1.size)
 have OD' := OD.out.later hb
 obtain ⟨⟨_, dc0⟩, ⟨_, dc1⟩, ⟨_, dc2⟩, ⟨_, dc3⟩, df0, df1, df2, df3⟩ := OD'
 clear hb1 hb2 hb
 refine rdy 4 (fun K hK => ?_)
 go_simp
 refine kop hK ((((hH.set _ _).set _ _).set _ _).set _ _) fun hH => ?_; clear hK K
 refine wpAnyH_done (by kernel_rfl) ?_ _
 refine NoPanic.normal ?_
 go_wp2
 refine bodyPost_ret (v := (.agg (ea v))) (by simp [results, Tryz.results71, go_sem, dc0, dc1, dc2, dc3]) rfl ⟨_, rfl, hv, HV', ?_⟩
 exact hH.below HB.out (by omega)
theorem invert_e (x : Int) (hx : El x) (w : World) :
  Calls Tryz.prog 71 #[(.agg (ea x))] w fun e w' => ∃ z, e = .returned (.agg (ea z)) ∧ El z ∧ Hid (z = pw x 57896044618658097711785492504343953926634992332820282019728792003956564819947) ∧ Below w.heap.size w w' :=
 invert_g x x hx (pw_one x hx).symm w
end Go.Proofs.YtlnbjehimabaiaaGreatDoor.Fc
