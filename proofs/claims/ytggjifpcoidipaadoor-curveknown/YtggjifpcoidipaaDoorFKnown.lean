/-
  What the law's own 'known' does: chapter 2's examples hold. No statement of the seat is proved here.
-/
import Derived.Test.YtggjifpcoidipaaDoorFLawA
import Derived.BigFrame
namespace Go.Proofs.YtggjifpcoidipaaDoor
open Go.RowKit

/-- The load of a whole array where a guard says yes. -/
theorem wpList_load_want {P : Program} {ops : Array Oper} {rest : List Oper} {op : Oper} {a : Act} {w : World} {Q : Exit → Act → World → Prop} (hw : Region.wanted op (yielded ops a.tmps) = true) (ty : TypeId) (x : Operand) (ho : op.op = .load ty x)
    (b o : Nat) (hx : a.eval x = .pointer (some ⟨b, o, none⟩)) (cs : List Value) (d : TypeDesc) (hc : w.rangeAt b o cs)
    (hu : P.underlying ty = some d) (hd : d.isRow = true) (hi : (P.info? ty).map (·.size) = some cs.length)
    (h : wpList P ops Q rest (a.put op.dst (.agg cs.toArray)) w) : wpList P ops Q (op :: rest) a w :=
  Go.BigFrame.wpList_want hw fun _ hK => wp_load_mid ty x ho b o hx cs d hc hu hd hi (hK _ _ h)
/-- A variable that holds an array of bytes. -/
structure Arr (u : World) (b : Nat) (cs : List Value) : Prop where
  rng : u.rangeAt b 0 cs
  all : u.there b 0 32
theorem Arr.later {u u' : World} {b : Nat} {cs : List Value} (h : Arr u b cs) (hb : Below u.heap.size u u') : Arr u' b cs := ⟨range_later hb h.rng, there_later hb h.all⟩
theorem arr_new (u : World) (z : Array Value) (hz : z.size = 32) (cs : List Value) (hl : cs.length = 32) : Arr ((u.alloc (.cells z 22)).setCells u.heap.size 0 cs) u.heap.size cs :=
  ⟨World.rangeAt_setCells_same _ _ _ _ (by rw [hl]; exact there_new u 32 z hz _), World.there_setCells (there_new u 32 z hz _) _ _ _⟩
theorem bel_new (u : World) (z : Array Value) (cs : List Value) : Below u.heap.size u ((u.alloc (.cells z 22)).setCells u.heap.size 0 cs) := below_setCells _ (Nat.le_refl _) _ _ _ (bel1 _ _)
theorem Arr.lt {u : World} {b : Nat} {cs : List Value} (h : Arr u b cs) : b < u.heap.size := there_lt h.all (by decide)
theorem lay_by (x : Int) : By (lay 32 x) := ⟨lay_length 32 x, lay_byt 32 x⟩
theorem num_pl (q : Int) (h0 : 237 ≤ q) (h1 : q ≤ 255) : num (pl q) = q - 237 := by
  unfold num
  rw [leN_pl]
  omega
theorem zs_eq : (.agg #[.int .u8 0, .int .u8 0, .int .u8 0, .int .u8 0, .int .u8 0, .int .u8 0, .int .u8 0, .int .u8 0, .int .u8 0, .int .u8 0, .int .u8 0, .int .u8 0, .int .u8 0, .int .u8 0, .int .u8 0, .int .u8 0, .int .u8 0, .int .u8 0, .int .u8 0, .int .u8 0, .int .u8 0, .int .u8 0, .int .u8 0, .int .u8 0, .int .u8 0, .int .u8 0, .int .u8 0, .int .u8 0, .int .u8 0, .int .u8 0, .int .u8 0, .int .u8 0] : Value) = (.agg (List.map (Value.int .u8) (lay 32 0)).toArray) := by kernel_rfl
theorem z1_eq : (.agg #[.int .u8 1, .int .u8 0, .int .u8 0, .int .u8 0, .int .u8 0, .int .u8 0, .int .u8 0, .int .u8 0, .int .u8 0, .int .u8 0, .int .u8 0, .int .u8 0, .int .u8 0, .int .u8 0, .int .u8 0, .int .u8 0, .int .u8 0, .int .u8 0, .int .u8 0, .int .u8 0, .int .u8 0, .int .u8 0, .int .u8 0, .int .u8 0, .int .u8 0, .int .u8 0, .int .u8 0, .int .u8 0, .int .u8 0, .int .u8 0, .int .u8 0, .int .u8 0] : Value) = (.agg (List.map (Value.int .u8) (lay 32 1)).toArray) := by kernel_rfl
theorem eql_same (a b : List Int) (ha : By a) (hb : By b) (h : a = b) (w : World) : Sem.run Tryd.prog (binOp .eql 22 (.agg (List.map (Value.int .u8) a).toArray) (.agg (List.map (Value.int .u8) b).toArray)) w = .ok (.bool true) w := by
  rw [eql_arr a b ha hb]
  simp [alike, h]
/-- What a store of bytes wants. -/
theorem by_cells' {l : List Int} {cs : List Value} (h : By l) (hc : Hid ((List.map (Value.int .u8) l) = cs)) : cs.length = 32 ∧ (∀ v ∈ cs, v.oneCell' = true) ∧ (Tryd.prog.info? 22).map (·.size) = some cs.length := by
  rw [← hc.out]
  exact by_cells h

set_option maxHeartbeats 4000000 in
theorem known_any (w : World) : Calls Tryd.prog 9 #[] w fun e w' => e = .returned (.bool true) ∧ Below w.heap.size w w' := by
  go_enter Tryd.func9, Tryd.ntmps9
  have HB : Hid (Below w.heap.size w w) := Below.refl _ _
  go_wp2_with fail
  refine (prime_any 0 (by decide) _).mono ?_
  rintro e u0 ⟨l0, rfl, hl0, HP0, hb⟩
  have Hu0 : Hid (Below w.heap.size w u0) := hb
  clear hb
  go_wp2_with fail
  refine (from_e l0 hl0 _).mono ?_
  rintro e v0 ⟨z0, rfl, hz0, HZ0, hb⟩
  have Hv0 : Hid (Below w.heap.size w v0) := Hu0.out.trans (hb.mono Hu0.out.size)
  clear hb
  go_wp2_with fail
  refine (bytes_e z0 hz0 _).mono ?_
  rintro e y0 ⟨rfl, hb⟩
  have Hy0 : Hid (Below w.heap.size w y0) := Hv0.out.trans (hb.mono Hv0.out.size)
  clear hb Hu0 Hv0
  have HE0 : Hid (z0 = 0) := by
    unfold Hid
    rw [HZ0.out, HP0.out, show ((237 : Int) + 0) % 256 = 237 from by decide, num_pl 237 (by decide) (by decide)]
    rfl
  have hby0 := lay_by z0
  generalize hcs : (List.map (Value.int .u8) (lay 32 z0)) = cs0 at *
  have HC0 : Hid ((List.map (Value.int .u8) (lay 32 z0)) = cs0) := hcs
  clear hcs
  replace HB : Hid (Below w.heap.size w y0) := HB.out.trans (Hy0.out.mono HB.out.size)
  obtain ⟨hlen0, hone0, hi0⟩ := by_cells' hby0 HC0
  have hth := there_new y0 32 #[.int .u8 0, .int .u8 0, .int .u8 0, .int .u8 0, .int .u8 0, .int .u8 0, .int .u8 0, .int .u8 0, .int .u8 0, .int .u8 0, .int .u8 0, .int .u8 0, .int .u8 0, .int .u8 0, .int .u8 0, .int .u8 0, .int .u8 0, .int .u8 0, .int .u8 0, .int .u8 0, .int .u8 0, .int .u8 0, .int .u8 0, .int .u8 0, .int .u8 0, .int .u8 0, .int .u8 0, .int .u8 0, .int .u8 0, .int .u8 0, .int .u8 0, .int .u8 0] rfl 22
  have A0 := arr_new y0 #[.int .u8 0, .int .u8 0, .int .u8 0, .int .u8 0, .int .u8 0, .int .u8 0, .int .u8 0, .int .u8 0, .int .u8 0, .int .u8 0, .int .u8 0, .int .u8 0, .int .u8 0, .int .u8 0, .int .u8 0, .int .u8 0, .int .u8 0, .int .u8 0, .int .u8 0, .int .u8 0, .int .u8 0, .int .u8 0, .int .u8 0, .int .u8 0, .int .u8 0, .int .u8 0, .int .u8 0, .int .u8 0, .int .u8 0, .int .u8 0, .int .u8 0, .int .u8 0] rfl cs0 hlen0
  have N0 := bel_new y0 #[.int .u8 0, .int .u8 0, .int .u8 0, .int .u8 0, .int .u8 0, .int .u8 0, .int .u8 0, .int .u8 0, .int .u8 0, .int .u8 0, .int .u8 0, .int .u8 0, .int .u8 0, .int .u8 0, .int .u8 0, .int .u8 0, .int .u8 0, .int .u8 0, .int .u8 0, .int .u8 0, .int .u8 0, .int .u8 0, .int .u8 0, .int .u8 0, .int .u8 0, .int .u8 0, .int .u8 0, .int .u8 0, .int .u8 0, .int .u8 0, .int .u8 0, .int .u8 0] cs0
  go_wp2_with (refine wpList_store_mid rfl 22 (.tmp 1) (.tmp 7) rfl (y0.heap.size) 0 cs0.toArray rfl rfl (by simpa [hlen0] using hth) (by simpa using hi0) (all_oneCell_toArray hone0) ?_)
  clear hth
  have HB' := HB.out.trans (N0.mono HB.out.size)
  generalize (y0.alloc (.cells #[.int .u8 0, .int .u8 0, .int .u8 0, .int .u8 0, .int .u8 0, .int .u8 0, .int .u8 0, .int .u8 0, .int .u8 0, .int .u8 0, .int .u8 0, .int .u8 0, .int .u8 0, .int .u8 0, .int .u8 0, .int .u8 0, .int .u8 0, .int .u8 0, .int .u8 0, .int .u8 0, .int .u8 0, .int .u8 0, .int .u8 0, .int .u8 0, .int .u8 0, .int .u8 0, .int .u8 0, .int .u8 0, .int .u8 0, .int .u8 0, .int .u8 0, .int .u8 0] 22)).setCells y0.heap.size 0 cs0 = W0 at *
  generalize y0.heap.size = b0 at *
  replace HB : Hid (Below w.heap.size w W0) := HB'
  clear HB' N0
  have V0 : Hid (Arr W0 b0 cs0) := A0
  clear A0
  clear Hy0
  refine (prime_any 1 (by decide) _).mono ?_
  rintro e u1 ⟨l1, rfl, hl1, HP1, hb⟩
  have Hu1 : Hid (Below W0.heap.size W0 u1) := hb
  clear hb
  go_wp2_with fail
  refine (from_e l1 hl1 _).mono ?_
  rintro e v1 ⟨z1, rfl, hz1, HZ1, hb⟩
  have Hv1 : Hid (Below W0.heap.size W0 v1) := Hu1.out.trans (hb.mono Hu1.out.size)
  clear hb
  go_wp2_with fail
  refine (bytes_e z1 hz1 _).mono ?_
  rintro e y1 ⟨rfl, hb⟩
  have Hy1 : Hid (Below W0.heap.size W0 y1) := Hv1.out.trans (hb.mono Hv1.out.size)
  clear hb Hu1 Hv1
  have HE1 : Hid (z1 = 1) := by
    unfold Hid
    rw [HZ1.out, HP1.out, show ((237 : Int) + 1) % 256 = 238 from by decide, num_pl 238 (by decide) (by decide)]
    rfl
  have hby1 := lay_by z1
  generalize hcs : (List.map (Value.int .u8) (lay 32 z1)) = cs1 at *
  have HC1 : Hid ((List.map (Value.int .u8) (lay 32 z1)) = cs1) := hcs
  clear hcs
  replace HB : Hid (Below w.heap.size w y1) := HB.out.trans (Hy1.out.mono HB.out.size)
  obtain ⟨hlen1, hone1, hi1⟩ := by_cells' hby1 HC1
  have hth := there_new y1 32 #[.int .u8 0, .int .u8 0, .int .u8 0, .int .u8 0, .int .u8 0, .int .u8 0, .int .u8 0, .int .u8 0, .int .u8 0, .int .u8 0, .int .u8 0, .int .u8 0, .int .u8 0, .int .u8 0, .int .u8 0, .int .u8 0, .int .u8 0, .int .u8 0, .int .u8 0, .int .u8 0, .int .u8 0, .int .u8 0, .int .u8 0, .int .u8 0, .int .u8 0, .int .u8 0, .int .u8 0, .int .u8 0, .int .u8 0, .int .u8 0, .int .u8 0, .int .u8 0] rfl 22
  have A1 := arr_new y1 #[.int .u8 0, .int .u8 0, .int .u8 0, .int .u8 0, .int .u8 0, .int .u8 0, .int .u8 0, .int .u8 0, .int .u8 0, .int .u8 0, .int .u8 0, .int .u8 0, .int .u8 0, .int .u8 0, .int .u8 0, .int .u8 0, .int .u8 0, .int .u8 0, .int .u8 0, .int .u8 0, .int .u8 0, .int .u8 0, .int .u8 0, .int .u8 0, .int .u8 0, .int .u8 0, .int .u8 0, .int .u8 0, .int .u8 0, .int .u8 0, .int .u8 0, .int .u8 0] rfl cs1 hlen1
  have N1 := bel_new y1 #[.int .u8 0, .int .u8 0, .int .u8 0, .int .u8 0, .int .u8 0, .int .u8 0, .int .u8 0, .int .u8 0, .int .u8 0, .int .u8 0, .int .u8 0, .int .u8 0, .int .u8 0, .int .u8 0, .int .u8 0, .int .u8 0, .int .u8 0, .int .u8 0, .int .u8 0, .int .u8 0, .int .u8 0, .int .u8 0, .int .u8 0, .int .u8 0, .int .u8 0, .int .u8 0, .int .u8 0, .int .u8 0, .int .u8 0, .int .u8 0, .int .u8 0, .int .u8 0] cs1
  go_wp2_with (refine wpList_store_mid rfl 22 (.tmp 2) (.tmp 10) rfl (y1.heap.size) 0 cs1.toArray rfl rfl (by simpa [hlen1] using hth) (by simpa using hi1) (all_oneCell_toArray hone1) ?_)
  clear hth
  have V0' := (V0.out.later (Hy1.out)).later N1
  have ltb01 := (V0.out.later (Hy1.out)).lt
  have HB' := HB.out.trans (N1.mono HB.out.size)
  generalize (y1.alloc (.cells #[.int .u8 0, .int .u8 0, .int .u8 0, .int .u8 0, .int .u8 0, .int .u8 0, .int .u8 0, .int .u8 0, .int .u8 0, .int .u8 0, .int .u8 0, .int .u8 0, .int .u8 0, .int .u8 0, .int .u8 0, .int .u8 0, .int .u8 0, .int .u8 0, .int .u8 0, .int .u8 0, .int .u8 0, .int .u8 0, .int .u8 0, .int .u8 0, .int .u8 0, .int .u8 0, .int .u8 0, .int .u8 0, .int .u8 0, .int .u8 0, .int .u8 0, .int .u8 0] 22)).setCells y1.heap.size 0 cs1 = W1 at *
  generalize y1.heap.size = b1 at *
  replace V0 : Hid (Arr W1 b0 cs0) := V0'
  clear V0'
  replace HB : Hid (Below w.heap.size w W1) := HB'
  clear HB' N1
  have V1 : Hid (Arr W1 b1 cs1) := A1
  clear A1
  clear Hy1
  refine (zero_e _).mono ?_
  rintro e u2 ⟨rfl, hb⟩
  have Hu2 : Hid (Below W1.heap.size W1 u2) := hb
  clear hb
  go_wp2_with fail
  refine (one_e _).mono ?_
  rintro e v2 ⟨rfl, hb⟩
  have Hv2 : Hid (Below W1.heap.size W1 v2) := Hu2.out.trans (hb.mono Hu2.out.size)
  clear hb
  go_wp2_with fail
  refine (sub_e 0 1 El.zero El.one _).mono ?_
  rintro e x2 ⟨z2, rfl, hz2, HZ2, hb⟩
  have Hx2 : Hid (Below W1.heap.size W1 x2) := Hv2.out.trans (hb.mono Hv2.out.size)
  clear hb
  go_wp2_with fail
  refine (bytes_e z2 hz2 _).mono ?_
  rintro e y2 ⟨rfl, hb⟩
  have Hy2 : Hid (Below W1.heap.size W1 y2) := Hx2.out.trans (hb.mono Hx2.out.size)
  clear hb Hu2 Hv2 Hx2
  have HE2 : Hid (z2 = 57896044618658097711785492504343953926634992332820282019728792003956564819948) := by
    unfold Hid
    rw [HZ2.out]
    decide
  have hby2 := lay_by z2
  generalize hcs : (List.map (Value.int .u8) (lay 32 z2)) = cs2 at *
  have HC2 : Hid ((List.map (Value.int .u8) (lay 32 z2)) = cs2) := hcs
  clear hcs
  replace HB : Hid (Below w.heap.size w y2) := HB.out.trans (Hy2.out.mono HB.out.size)
  obtain ⟨hlen2, hone2, hi2⟩ := by_cells' hby2 HC2
  have hth := there_new y2 32 #[.int .u8 0, .int .u8 0, .int .u8 0, .int .u8 0, .int .u8 0, .int .u8 0, .int .u8 0, .int .u8 0, .int .u8 0, .int .u8 0, .int .u8 0, .int .u8 0, .int .u8 0, .int .u8 0, .int .u8 0, .int .u8 0, .int .u8 0, .int .u8 0, .int .u8 0, .int .u8 0, .int .u8 0, .int .u8 0, .int .u8 0, .int .u8 0, .int .u8 0, .int .u8 0, .int .u8 0, .int .u8 0, .int .u8 0, .int .u8 0, .int .u8 0, .int .u8 0] rfl 22
  have A2 := arr_new y2 #[.int .u8 0, .int .u8 0, .int .u8 0, .int .u8 0, .int .u8 0, .int .u8 0, .int .u8 0, .int .u8 0, .int .u8 0, .int .u8 0, .int .u8 0, .int .u8 0, .int .u8 0, .int .u8 0, .int .u8 0, .int .u8 0, .int .u8 0, .int .u8 0, .int .u8 0, .int .u8 0, .int .u8 0, .int .u8 0, .int .u8 0, .int .u8 0, .int .u8 0, .int .u8 0, .int .u8 0, .int .u8 0, .int .u8 0, .int .u8 0, .int .u8 0, .int .u8 0] rfl cs2 hlen2
  have N2 := bel_new y2 #[.int .u8 0, .int .u8 0, .int .u8 0, .int .u8 0, .int .u8 0, .int .u8 0, .int .u8 0, .int .u8 0, .int .u8 0, .int .u8 0, .int .u8 0, .int .u8 0, .int .u8 0, .int .u8 0, .int .u8 0, .int .u8 0, .int .u8 0, .int .u8 0, .int .u8 0, .int .u8 0, .int .u8 0, .int .u8 0, .int .u8 0, .int .u8 0, .int .u8 0, .int .u8 0, .int .u8 0, .int .u8 0, .int .u8 0, .int .u8 0, .int .u8 0, .int .u8 0] cs2
  go_wp2_with (refine wpList_store_mid rfl 22 (.tmp 3) (.tmp 14) rfl (y2.heap.size) 0 cs2.toArray rfl rfl (by simpa [hlen2] using hth) (by simpa using hi2) (all_oneCell_toArray hone2) ?_)
  clear hth
  have V0' := (V0.out.later (Hy2.out)).later N2
  have ltb02 := (V0.out.later (Hy2.out)).lt
  have V1' := (V1.out.later (Hy2.out)).later N2
  have ltb12 := (V1.out.later (Hy2.out)).lt
  have HB' := HB.out.trans (N2.mono HB.out.size)
  generalize (y2.alloc (.cells #[.int .u8 0, .int .u8 0, .int .u8 0, .int .u8 0, .int .u8 0, .int .u8 0, .int .u8 0, .int .u8 0, .int .u8 0, .int .u8 0, .int .u8 0, .int .u8 0, .int .u8 0, .int .u8 0, .int .u8 0, .int .u8 0, .int .u8 0, .int .u8 0, .int .u8 0, .int .u8 0, .int .u8 0, .int .u8 0, .int .u8 0, .int .u8 0, .int .u8 0, .int .u8 0, .int .u8 0, .int .u8 0, .int .u8 0, .int .u8 0, .int .u8 0, .int .u8 0] 22)).setCells y2.heap.size 0 cs2 = W2 at *
  generalize y2.heap.size = b2 at *
  replace V0 : Hid (Arr W2 b0 cs0) := V0'
  clear V0'
  replace V1 : Hid (Arr W2 b1 cs1) := V1'
  clear V1'
  replace HB : Hid (Below w.heap.size w W2) := HB'
  clear HB' N2
  have V2 : Hid (Arr W2 b2 cs2) := A2
  clear A2
  clear Hy2
  refine (prime_any 0 (by decide) _).mono ?_
  rintro e u3 ⟨l3, rfl, hl3, HP3, hb⟩
  have Hu3 : Hid (Below W2.heap.size W2 u3) := hb
  clear hb
  have hby3 := hl3
  generalize hcs : (List.map (Value.int .u8) l3) = cs3 at *
  have HC3 : Hid ((List.map (Value.int .u8) l3) = cs3) := hcs
  clear hcs
  replace HB : Hid (Below w.heap.size w u3) := HB.out.trans (Hu3.out.mono HB.out.size)
  obtain ⟨hlen3, hone3, hi3⟩ := by_cells' hby3 HC3
  have hth := there_new u3 32 #[.int .u8 0, .int .u8 0, .int .u8 0, .int .u8 0, .int .u8 0, .int .u8 0, .int .u8 0, .int .u8 0, .int .u8 0, .int .u8 0, .int .u8 0, .int .u8 0, .int .u8 0, .int .u8 0, .int .u8 0, .int .u8 0, .int .u8 0, .int .u8 0, .int .u8 0, .int .u8 0, .int .u8 0, .int .u8 0, .int .u8 0, .int .u8 0, .int .u8 0, .int .u8 0, .int .u8 0, .int .u8 0, .int .u8 0, .int .u8 0, .int .u8 0, .int .u8 0] rfl 22
  have A3 := arr_new u3 #[.int .u8 0, .int .u8 0, .int .u8 0, .int .u8 0, .int .u8 0, .int .u8 0, .int .u8 0, .int .u8 0, .int .u8 0, .int .u8 0, .int .u8 0, .int .u8 0, .int .u8 0, .int .u8 0, .int .u8 0, .int .u8 0, .int .u8 0, .int .u8 0, .int .u8 0, .int .u8 0, .int .u8 0, .int .u8 0, .int .u8 0, .int .u8 0, .int .u8 0, .int .u8 0, .int .u8 0, .int .u8 0, .int .u8 0, .int .u8 0, .int .u8 0, .int .u8 0] rfl cs3 hlen3
  have N3 := bel_new u3 #[.int .u8 0, .int .u8 0, .int .u8 0, .int .u8 0, .int .u8 0, .int .u8 0, .int .u8 0, .int .u8 0, .int .u8 0, .int .u8 0, .int .u8 0, .int .u8 0, .int .u8 0, .int .u8 0, .int .u8 0, .int .u8 0, .int .u8 0, .int .u8 0, .int .u8 0, .int .u8 0, .int .u8 0, .int .u8 0, .int .u8 0, .int .u8 0, .int .u8 0, .int .u8 0, .int .u8 0, .int .u8 0, .int .u8 0, .int .u8 0, .int .u8 0, .int .u8 0] cs3
  go_upto_region 5 with (refine wpList_store_mid rfl 22 (.tmp 4) (.tmp 15) rfl (u3.heap.size) 0 cs3.toArray rfl rfl (by simpa [hlen3] using hth) (by simpa using hi3) (all_oneCell_toArray hone3) ?_)
  clear hth
  have V0' := (V0.out.later (Hu3.out)).later N3
  have ltb03 := (V0.out.later (Hu3.out)).lt
  have V1' := (V1.out.later (Hu3.out)).later N3
  have ltb13 := (V1.out.later (Hu3.out)).lt
  have V2' := (V2.out.later (Hu3.out)).later N3
  have ltb23 := (V2.out.later (Hu3.out)).lt
  have HB' := HB.out.trans (N3.mono HB.out.size)
  have hgb : w.heap.size ≤ u3.heap.size := HB.out.size
  generalize (u3.alloc (.cells #[.int .u8 0, .int .u8 0, .int .u8 0, .int .u8 0, .int .u8 0, .int .u8 0, .int .u8 0, .int .u8 0, .int .u8 0, .int .u8 0, .int .u8 0, .int .u8 0, .int .u8 0, .int .u8 0, .int .u8 0, .int .u8 0, .int .u8 0, .int .u8 0, .int .u8 0, .int .u8 0, .int .u8 0, .int .u8 0, .int .u8 0, .int .u8 0, .int .u8 0, .int .u8 0, .int .u8 0, .int .u8 0, .int .u8 0, .int .u8 0, .int .u8 0, .int .u8 0] 22)).setCells u3.heap.size 0 cs3 = W3 at *
  generalize u3.heap.size = b3 at *
  replace V0 : Hid (Arr W3 b0 cs0) := V0'
  clear V0'
  replace V1 : Hid (Arr W3 b1 cs1) := V1'
  clear V1'
  replace V2 : Hid (Arr W3 b2 cs2) := V2'
  clear V2'
  replace HB : Hid (Below w.heap.size w W3) := HB'
  clear HB' N3
  have V3 : Hid (Arr W3 b3 cs3) := A3
  clear A3
  clear Hu3
  have HP : Hid (l3 = pl 237) := HP3
  have d0 : W3.cell? ⟨b3, 0, none⟩ = some (.int .u8 237) := by
    have := V3.out.rng 0 (.int .u8 237) (by rw [← HC3.out, HP.out]; rfl)
    simpa using this
  obtain ⟨_, _, df0⟩ := there_cell V3.out.all 0 (by decide)
  go_upto_region 6 with fail
  have hbd : By (pl 236) := pl_by 236 (by decide) (by decide)
  have V3' : Hid (Arr (W3.setCell ⟨b3, 0, none⟩ (.int .u8 236)) b3 (List.map (Value.int .u8) (pl 236))) := by
    refine ⟨?_, there_set V3.out.all _ _ _⟩
    have r := range_sub V3.out.rng 1 31
    have e : (cs3.drop 1).take 31 = (List.map (Value.int .u8) (ff 30 ++ [127])) := by rw [← HC3.out, HP.out]; rfl
    rw [e] at r
    have a := range_one (v := .int .u8 236) d0
    have b := range_far r (.inl (by decide)) (.int .u8 236) (k := 0)
    exact range_app a b
  have V0' : Hid (Arr (W3.setCell ⟨b3, 0, none⟩ (.int .u8 236)) b0 cs0) := ⟨range_else V0.out.rng (by omega) _, there_set V0.out.all _ _ _⟩
  have V1' : Hid (Arr (W3.setCell ⟨b3, 0, none⟩ (.int .u8 236)) b1 cs1) := ⟨range_else V1.out.rng (by omega) _, there_set V1.out.all _ _ _⟩
  have V2' : Hid (Arr (W3.setCell ⟨b3, 0, none⟩ (.int .u8 236)) b2 cs2) := ⟨range_else V2.out.rng (by omega) _, there_set V2.out.all _ _ _⟩
  have HB' : Hid (Below w.heap.size w (W3.setCell ⟨b3, 0, none⟩ (.int .u8 236))) := HB.out.setCell (p := ⟨b3, 0, none⟩) hgb _
  generalize W3.setCell ⟨b3, 0, none⟩ (.int .u8 236) = W4 at *
  clear V0 V1 V2 V3 HB d0 df0
  have e0 := fun u => eql_same _ _ hby0 (lay_by 0) (by rw [HE0.out]) u
  have e1 := fun u => eql_same _ _ hby1 (lay_by 1) (by rw [HE1.out]) u
  have e2 := fun u => eql_same _ _ hby2 hbd (by rw [HE2.out]; decide) u
  rw [HC0.out, ← zs_eq] at e0
  rw [HC1.out, ← z1_eq] at e1
  rw [HC2.out] at e2
  obtain ⟨_, _, hid⟩ := by_cells hbd
  generalize hcs : (List.map (Value.int .u8) (pl 236)) = csd at *
  clear hcs
  clear hlen0 hlen1 hlen2 hlen3
  go_wp2_with (first
    | (refine wpList_load_mid rfl 22 (.tmp 1) rfl b0 0 rfl cs0 _ V0'.out.rng Tryd.underlying22 rfl hi0 ?_)
    | (refine wpList_load_want (by rfl) 22 (.tmp 2) rfl b1 0 rfl cs1 _ V1'.out.rng Tryd.underlying22 rfl hi1 ?_)
    | (refine wpList_load_want (by rfl) 22 (.tmp 3) rfl b2 0 rfl cs2 _ V2'.out.rng Tryd.underlying22 rfl hi2 ?_)
    | (refine wpList_load_want (by rfl) 22 (.tmp 4) rfl b3 0 rfl csd _ V3'.out.rng Tryd.underlying22 rfl hid ?_))
  go_ret
  exact ⟨rfl, HB'.out⟩
end Go.Proofs.YtggjifpcoidipaaDoor
