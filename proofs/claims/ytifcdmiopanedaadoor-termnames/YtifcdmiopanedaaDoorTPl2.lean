/-
  What portholehand's Plain makes of a Chain, a Digest, a Box. No statement of the seat is proved here.
-/
import Derived.Test.YtifcdmiopanedaaDoorTPlain
namespace Go.Proofs.YtifcdmiopanedaaDoor
open Go.RowKit

theorem four {x : List Value} (h : x.length = 4) : ∃ a b c d, x = [a, b, c, d] := by
  match x, h with
  | [a, b, c, d], _ => exact ⟨a, b, c, d, rfl⟩
theorem run_t2 (x y : List Value) (hx : x.length = 4) (hy : y.length = 4) (w : World) : Sem.run Tryd.prog (Instr.buildSlice 50 2 #[(0, .agg x.toArray), (1, .agg y.toArray)]) w = .ok (.slice (some ⟨w.heap.size, 0, none⟩) 2 2) (w.alloc (.cells (x ++ y).toArray 52)) := by
  obtain ⟨x0, x1, x2, x3, rfl⟩ := four hx
  obtain ⟨y0, y1, y2, y3, rfl⟩ := four hy
  kernel_rfl
theorem step_t2 {ops : Array Oper} {o : Oper} {a : Act} {w : World} {K : Act → World → Prop} {Q : Exit → Act → World → Prop} {E : Prop} (hgd : o.guard = none) (px py : Operand) (ho : o.op = Op.buildSlice 50 2 #[(0, px), (1, py)]) (x y : List Value) (hx : x.length = 4) (hy : y.length = 4) (ex : a.eval px = .agg x.toArray) (ey : a.eval py = .agg y.toArray)
    (h : K (a.put o.dst (.slice (some ⟨w.heap.size, 0, none⟩) 2 2)) (w.alloc (.cells (x ++ y).toArray 52))) : if Region.wanted o (yielded ops a.tmps) = true then Oper.wp Tryd.prog o a w K Q else E := by
  have hw : Region.wanted o (yielded ops a.tmps) = true := by simp [Region.wanted, hgd]
  have hr := run_t2 x y hx hy w
  rw [if_pos hw]
  unfold Oper.wp execOp
  simp only [ho, Sem.run_bind, List.map_toArray, List.map_cons, List.map_nil, ex, ey, hr]
  exact h
theorem run_t3 (x y z : List Value) (hx : x.length = 4) (hy : y.length = 4) (hz : z.length = 4) (w : World) : Sem.run Tryd.prog (Instr.buildSlice 50 3 #[(0, .agg x.toArray), (1, .agg y.toArray), (2, .agg z.toArray)]) w = .ok (.slice (some ⟨w.heap.size, 0, none⟩) 3 3) (w.alloc (.cells (x ++ (y ++ z)).toArray 52)) := by
  obtain ⟨x0, x1, x2, x3, rfl⟩ := four hx
  obtain ⟨y0, y1, y2, y3, rfl⟩ := four hy
  obtain ⟨z0, z1, z2, z3, rfl⟩ := four hz
  kernel_rfl
theorem step_t3 {ops : Array Oper} {o : Oper} {a : Act} {w : World} {K : Act → World → Prop} {Q : Exit → Act → World → Prop} {E : Prop} (hgd : o.guard = none) (px py pz : Operand) (ho : o.op = Op.buildSlice 50 3 #[(0, px), (1, py), (2, pz)]) (x y z : List Value) (hx : x.length = 4) (hy : y.length = 4) (hz : z.length = 4) (ex : a.eval px = .agg x.toArray) (ey : a.eval py = .agg y.toArray) (ez : a.eval pz = .agg z.toArray)
    (h : K (a.put o.dst (.slice (some ⟨w.heap.size, 0, none⟩) 3 3)) (w.alloc (.cells (x ++ (y ++ z)).toArray 52))) : if Region.wanted o (yielded ops a.tmps) = true then Oper.wp Tryd.prog o a w K Q else E := by
  have hw : Region.wanted o (yielded ops a.tmps) = true := by simp [Region.wanted, hgd]
  have hr := run_t3 x y z hx hy hz w
  rw [if_pos hw]
  unfold Oper.wp execOp
  simp only [ho, Sem.run_bind, List.map_toArray, List.map_cons, List.map_nil, ex, ey, ez, hr]
  exact h
/-- What is claimed of a value that is a term. -/
def Plained (v : Value) (l : List UInt8) : Prop := ∀ w, Calls Tryd.prog 21 #[v] w fun e w' => ∃ cs, e = .returned (.agg cs.toArray) ∧ cs.length = 4 ∧ Hid (Rt w' w.heap.size cs l) ∧ Below w.heap.size w w'
/-- Nothing has turned but block q, and its four cells are there. -/
structure EtB (q : Nat) (W u : World) : Prop where
  ex : ExtB q W u
  th : u.there q 0 4
theorem EtB.drew {q : Nat} {W u : World} (h : EtB q W u) : EtB q W u.drew := ⟨h.ex.drew, h.th⟩
theorem EtB.trans {q : Nat} {W u v : World} (h : EtB q W u) (k : Below u.heap.size u v) : EtB q W v := ⟨h.ex.trans k, there_later k h.th⟩
theorem rng_new (u : World) (cs : List Value) (ty : TypeId) : (u.alloc (.cells cs.toArray ty)).rangeAt u.heap.size 0 cs := fun j v hv => by
  rw [Nat.zero_add, cell_of_row _ _ _ _ _ _ (heap_alloc_new u _)]
  simpa using hv
set_option maxRecDepth 8000 in
set_option maxHeartbeats 4000000 in
theorem plain_Chain (n : Int) (tx ty : TypeId) (vx vy : Value) (nx ny : List UInt8) (n0 : -9223372036854775808 ≤ n) (n1 : n ≤ 9223372036854775807) (px : Plained (.iface tx vx) nx) (py : Plained (.iface ty vy) ny) : Plained (.iface 33 (.agg #[.int .i64 n, .iface tx vx, .iface ty vy])) (chN n nx ny) := by
  intro w
  have hx : Hid (Plained (.iface tx vx) nx) := px
  have hy : Hid (Plained (.iface ty vy) ny) := py
  have fEmpty := as_Chain_Empty (.agg #[.int .i64 n, .iface tx vx, .iface ty vy])
  have fAtom := as_Chain_Atom (.agg #[.int .i64 n, .iface tx vx, .iface ty vy])
  have fPublic := as_Chain_Public (.agg #[.int .i64 n, .iface tx vx, .iface ty vy])
  have fShared := as_Chain_Shared (.agg #[.int .i64 n, .iface tx vx, .iface ty vy])
  have fChain := as_Chain_Chain (.agg #[.int .i64 n, .iface tx vx, .iface ty vy])
  have hs1 : (w.alloc (.cells #[.int .i64 0, .int .i64 0, .int .i64 0, .slice none 0 0] 52)).heap.size = w.heap.size + 1 := by simp
  have k0 : ((w.alloc (.cells #[.int .i64 0, .int .i64 0, .int .i64 0, .slice none 0 0] 52)).alloc (.cells #[.int .i64 n, .iface tx vx, .iface ty vy] 33)).cell? ⟨w.heap.size + 1, 0, none⟩ = some (.int .i64 n) := by have h := heap_alloc_new (w.alloc (.cells #[.int .i64 0, .int .i64 0, .int .i64 0, .slice none 0 0] 52)) (.cells #[.int .i64 n, .iface tx vx, .iface ty vy] 33); rw [hs1] at h; rw [cell_of_row _ _ _ _ _ _ h]; rfl
  have k1 : ((w.alloc (.cells #[.int .i64 0, .int .i64 0, .int .i64 0, .slice none 0 0] 52)).alloc (.cells #[.int .i64 n, .iface tx vx, .iface ty vy] 33)).cell? ⟨w.heap.size + 1, 1, none⟩ = some (.iface tx vx) := by have h := heap_alloc_new (w.alloc (.cells #[.int .i64 0, .int .i64 0, .int .i64 0, .slice none 0 0] 52)) (.cells #[.int .i64 n, .iface tx vx, .iface ty vy] 33); rw [hs1] at h; rw [cell_of_row _ _ _ _ _ _ h]; rfl
  have k2 : ((w.alloc (.cells #[.int .i64 0, .int .i64 0, .int .i64 0, .slice none 0 0] 52)).alloc (.cells #[.int .i64 n, .iface tx vx, .iface ty vy] 33)).cell? ⟨w.heap.size + 1, 2, none⟩ = some (.iface ty vy) := by have h := heap_alloc_new (w.alloc (.cells #[.int .i64 0, .int .i64 0, .int .i64 0, .slice none 0 0] 52)) (.cells #[.int .i64 n, .iface tx vx, .iface ty vy] 33); rw [hs1] at h; rw [cell_of_row _ _ _ _ _ _ h]; rfl
  have hb1 := bel1 w (.cells #[.int .i64 0, .int .i64 0, .int .i64 0, .slice none 0 0] 52)
  have HB : Hid (Below w.heap.size w ((w.alloc (.cells #[.int .i64 0, .int .i64 0, .int .i64 0, .slice none 0 0] 52)).alloc (.cells #[.int .i64 n, .iface tx vx, .iface ty vy] 33))) := hb1.trans ((bel1 (w.alloc (.cells #[.int .i64 0, .int .i64 0, .int .i64 0, .slice none 0 0] 52)) _).mono hb1.size)
  have A2 : ((w.alloc (.cells #[.int .i64 0, .int .i64 0, .int .i64 0, .slice none 0 0] 52)).alloc (.cells #[.int .i64 n, .iface tx vx, .iface ty vy] 33)).there w.heap.size 0 4 := there_later (bel1 _ _) (there_new w 4 _ rfl 52)
  have kz : w.heap.size + 1 < ((w.alloc (.cells #[.int .i64 0, .int .i64 0, .int .i64 0, .slice none 0 0] 52)).alloc (.cells #[.int .i64 n, .iface tx vx, .iface ty vy] 33)).heap.size := by have h := (bel1 (w.alloc (.cells #[.int .i64 0, .int .i64 0, .int .i64 0, .slice none 0 0] 52)) (.cells #[.int .i64 n, .iface tx vx, .iface ty vy] 33)).size; have := World.block_lt_of_cell? _ _ k0; exact this
  clear px py hb1
  go_enter Tryd.func21, Tryd.ntmps21
  go_upto_region 16 with fail
  obtain ⟨W0, hW0⟩ : ∃ z, z = ((w.alloc (.cells #[.int .i64 0, .int .i64 0, .int .i64 0, .slice none 0 0] 52)).alloc (.cells #[.int .i64 n, .iface tx vx, .iface ty vy] 33)) := ⟨_, rfl⟩
  obtain ⟨q7, hq7⟩ : ∃ z, z = w.heap.size + 1 := ⟨_, rfl⟩
  obtain ⟨q2, hq2⟩ : ∃ z, z = w.heap.size := ⟨_, rfl⟩
  have hne : q7 ≠ q2 := by omega
  rw [← hW0] at HB A2 kz k0 k1 k2
  rw [← hq7] at kz k0 k1 k2
  rw [← hq2] at A2
  rw [← hW0, ← hq7, ← hq2]
  have HQ : Hid (q2 = w.heap.size) := hq2
  have HZ : Hid (q2 < W0.heap.size) := by unfold Hid; omega
  clear hW0 hq7 hq2 hs1 kz fEmpty fAtom fPublic fShared fChain
  refine wp_region_noPanic ?_
  refine wp_region_held_drew (S := EtB q2 W0) (by kernel_rfl) (EtB.mk (ExtB.refl q2 W0) A2).drew (fun hH => ?_)
  change wpAnyH _ _ _ _ _ _ #[false, false, false, false, false, false, false, false, false, false, false] _ _
  refine wpAnyH_take (i := 0) (oi := ?o0c) (v := ?v0c) ?h0c (by kernel_rfl) ?f0c ?r0c (fun _ _ _ h => h) (Or.inl ⟨?w0c, ?y0c⟩) (by assumption) ?t0c
  case h0c => simp only [List.getElem?_toArray]; rfl
  case f0c => kernel_rfl
  case r0c => kernel_rfl
  case w0c => rfl
  case y0c => (intro u hu; (go_simp) <;> with_reducible rfl)
  try simp only [Act.put, List.setIfInBounds_toArray, List.set_cons_zero, List.set_cons_succ]
  refine wpAnyH_take (i := 1) (oi := ?o1c) (v := ?v1c) ?h1c (by kernel_rfl) ?f1c ?r1c (fun _ _ _ h => h) (Or.inl ⟨?w1c, ?y1c⟩) (by assumption) ?t1c
  case h1c => simp only [List.getElem?_toArray]; rfl
  case f1c => kernel_rfl
  case r1c => kernel_rfl
  case w1c => rfl
  case y1c => (intro u hu; (have hx := hu.ex.cell hne k0; go_simp) <;> with_reducible rfl)
  try simp only [Act.put, List.setIfInBounds_toArray, List.set_cons_zero, List.set_cons_succ]
  refine wpAnyH_take (i := 2) (oi := ?o2c) (v := ?v2c) ?h2c (by kernel_rfl) ?f2c ?r2c (fun _ _ _ h => h) (Or.inl ⟨?w2c, ?y2c⟩) (by assumption) ?t2c
  case h2c => simp only [List.getElem?_toArray]; rfl
  case f2c => kernel_rfl
  case r2c => kernel_rfl
  case w2c => rfl
  case y2c => (intro u hu; (go_simp) <;> with_reducible rfl)
  try simp only [Act.put, List.setIfInBounds_toArray, List.set_cons_zero, List.set_cons_succ]
  refine wpAnyH_take (i := 3) (oi := ?o3c) (v := ?v3c) ?h3c (by kernel_rfl) ?f3c ?r3c (fun _ _ _ h => h) (Or.inl ⟨?w3c, ?y3c⟩) (by assumption) ?t3c
  case h3c => simp only [List.getElem?_toArray]; rfl
  case f3c => kernel_rfl
  case r3c => kernel_rfl
  case w3c => rfl
  case y3c => (intro u hu; (have hx := hu.ex.cell hne k1; go_simp) <;> with_reducible rfl)
  try simp only [Act.put, List.setIfInBounds_toArray, List.set_cons_zero, List.set_cons_succ]
  refine wpAnyH_take (i := 5) (oi := ?o5c) (v := ?v5c) ?h5c (by kernel_rfl) ?f5c ?r5c (fun _ _ _ h => h) (Or.inl ⟨?w5c, ?y5c⟩) (by assumption) ?t5c
  case h5c => simp only [List.getElem?_toArray]; rfl
  case f5c => kernel_rfl
  case r5c => kernel_rfl
  case w5c => rfl
  case y5c => (intro u hu; (go_simp) <;> with_reducible rfl)
  try simp only [Act.put, List.setIfInBounds_toArray, List.set_cons_zero, List.set_cons_succ]
  refine wpAnyH_take (i := 6) (oi := ?o6c) (v := ?v6c) ?h6c (by kernel_rfl) ?f6c ?r6c (fun _ _ _ h => h) (Or.inl ⟨?w6c, ?y6c⟩) (by assumption) ?t6c
  case h6c => simp only [List.getElem?_toArray]; rfl
  case f6c => kernel_rfl
  case r6c => kernel_rfl
  case w6c => rfl
  case y6c => (intro u hu; (have hx := hu.ex.cell hne k2; go_simp) <;> with_reducible rfl)
  try simp only [Act.put, List.setIfInBounds_toArray, List.set_cons_zero, List.set_cons_succ]
  refine wpAnyH_ready (rs := [4]) (by kernel_rfl) (by simp) ?_
  refine AllReadyH.cons (o := ?o4c) ?h4c (fun K hK => ?_) AllReadyH.nil
  case h4c => simp only [List.getElem?_toArray]; rfl
  go_simp
  refine (hx.out _).mono ?_
  rintro e V0 ⟨cx, rfl, lx, Rx, hb⟩
  replace Rx : Hid (Rt V0 W0.heap.size cx nx) := Rx.out.mono hH.ex.size
  refine hK.out _ _ (hH.trans hb) (fun hH' => ?_)
  clear hK K hH
  have hH := hH'
  clear hH'
  try simp only [List.setIfInBounds_toArray, List.set]
  clear hb
  refine wpAnyH_ready (rs := [7]) (by kernel_rfl) (by simp) ?_
  refine AllReadyH.cons (o := ?o7c) ?h7c (fun K hK => ?_) AllReadyH.nil
  case h7c => simp only [List.getElem?_toArray]; rfl
  go_simp
  refine (hy.out _).mono ?_
  rintro e V1 ⟨cy, rfl, ly, Ry, hb⟩
  replace Ry : Hid (Rt V1 W0.heap.size cy ny) := Ry.out.mono hH.ex.size
  replace Rx : Hid (Rt V1 W0.heap.size cx nx) := Rx.out.later hb
  refine hK.out _ _ (hH.trans hb) (fun hH' => ?_)
  clear hK K hH
  have hH := hH'
  clear hH'
  try simp only [List.setIfInBounds_toArray, List.set]
  clear hb
  refine wpAnyH_ready (rs := [8]) (by kernel_rfl) (by simp) ?_
  refine AllReadyH.cons (o := ?obc) ?hbc (fun K hK => ?_) AllReadyH.nil
  case hbc => simp only [List.getElem?_toArray]; rfl
  refine step_t2 rfl (.tmp 42) (.tmp 45) rfl cx cy lx ly rfl rfl ?_
  have hb := bel1 V1 (.cells (cx ++ cy).toArray 52)
  have hrng := rng_new V1 (cx ++ cy) 52
  have hsz := hH.ex.size
  replace Rx : Hid (Rt (V1.alloc (.cells (cx ++ cy).toArray 52)) W0.heap.size cx nx) := Rx.out.later hb
  replace Ry : Hid (Rt (V1.alloc (.cells (cx ++ cy).toArray 52)) W0.heap.size cy ny) := Ry.out.later hb
  refine hK.out _ _ (hH.trans hb) (fun hH' => ?_)
  clear hK K hH
  have hH := hH'
  clear hH'
  try simp only [List.setIfInBounds_toArray, List.set]
  obtain ⟨U, hU⟩ : ∃ z, z = V1.alloc (.cells (cx ++ cy).toArray 52) := ⟨_, rfl⟩
  obtain ⟨gs, hgs⟩ : ∃ z, z = V1.heap.size := ⟨_, rfl⟩
  rw [← hU] at hH hrng Rx Ry ⊢
  rw [← hgs] at hrng hsz ⊢
  clear hb hU hgs
  refine wpAnyH_take (i := 9) (oi := ?o9c) (v := ?v9c) ?h9c (by kernel_rfl) ?f9c ?r9c (fun _ _ _ h => h) (Or.inl ⟨?w9c, ?y9c⟩) (by assumption) ?t9c
  case h9c => simp only [List.getElem?_toArray]; rfl
  case f9c => kernel_rfl
  case r9c => kernel_rfl
  case w9c => rfl
  case y9c => (intro u hu; (go_simp) <;> with_reducible rfl)
  try simp only [Act.put, List.setIfInBounds_toArray, List.set_cons_zero, List.set_cons_succ]
  have hth : U.there q2 0 4 := hH.th
  refine wpAnyH_ready (rs := [10]) (by kernel_rfl) (by simp) ?_
  refine AllReadyH.cons (o := ?osc) ?hsc (fun K hK => ?_) AllReadyH.nil
  case hsc => simp only [List.getElem?_toArray]; rfl
  refine wp_store_mid 52 (.tmp 2) (.tmp 47) rfl q2 0 [.int .i64 5, .int .i64 n, .int .i64 0, .slice (some ⟨gs, 0, none⟩) 2 2].toArray rfl rfl hth (by kernel_rfl) (by simp [Value.oneCell']) ?_
  have hx0 : ExtB q2 U (U.setCells q2 0 [.int .i64 5, .int .i64 n, .int .i64 0, .slice (some ⟨gs, 0, none⟩) 2 2]) := extB_setCells _ _ _ (ExtB.refl _ _)
  refine hK.out _ _ (EtB.mk (extB_setCells _ _ _ hH.ex) (World.there_setCells hH.th _ _ _)) (fun hH' => ?_)
  clear hK K hH
  have hH := hH'
  clear hH'
  try simp only [List.setIfInBounds_toArray, List.set]
  refine wpAnyH_done (by kernel_rfl) ?_ _
  refine NoPanic.normal ?_
  have hR := World.rangeAt_setCells_same U q2 0 [.int .i64 5, .int .i64 n, .int .i64 0, .slice (some ⟨gs, 0, none⟩) 2 2] (by simpa using hth)
  have hld := run_loadVar_mid (P := Tryd.prog) _ _ 0 52 _ _ hR Tryd.underlying52 rfl (by kernel_rfl)
  have hbel : Below w.heap.size w (U.setCells q2 0 [.int .i64 5, .int .i64 n, .int .i64 0, .slice (some ⟨gs, 0, none⟩) 2 2]) := hH.ex.below HB.out (by have := HQ.out; omega)
  have hgq : q2 < gs := by have := HZ.out; omega
  have hRt : Hid (Rt (U.setCells q2 0 [.int .i64 5, .int .i64 n, .int .i64 0, .slice (some ⟨gs, 0, none⟩) 2 2]) w.heap.size [.int .i64 5, .int .i64 n, .int .i64 0, .slice (some ⟨gs, 0, none⟩) 2 2] (chN n nx ny)) := by
    refine Rt.mono (base := W0.heap.size) ?_ HB.out.size
    exact Rt.chain n n0 n1 hsz lx ly (fun j v hv => hx0.cell (by omega) (hrng j v hv)) (Rx.out.extb hx0 HZ.out) (Ry.out.extb hx0 HZ.out)
  go_wp2
  exact bodyPost_ret (v := .agg [.int .i64 5, .int .i64 n, .int .i64 0, .slice (some ⟨gs, 0, none⟩) 2 2].toArray) (by simp [results, Tryd.results21]; exact hld) rfl ⟨[.int .i64 5, .int .i64 n, .int .i64 0, .slice (some ⟨gs, 0, none⟩) 2 2], rfl, rfl, hRt, hbel⟩
set_option maxRecDepth 8000 in
set_option maxHeartbeats 4000000 in
theorem plain_Digest (tx ty : TypeId) (vx vy : Value) (nx ny : List UInt8) (px : Plained (.iface tx vx) nx) (py : Plained (.iface ty vy) ny) : Plained (.iface 39 (.agg #[.iface tx vx, .iface ty vy])) (dgN nx ny) := by
  intro w
  have hx : Hid (Plained (.iface tx vx) nx) := px
  have hy : Hid (Plained (.iface ty vy) ny) := py
  have fEmpty := as_Digest_Empty (.agg #[.iface tx vx, .iface ty vy])
  have fAtom := as_Digest_Atom (.agg #[.iface tx vx, .iface ty vy])
  have fPublic := as_Digest_Public (.agg #[.iface tx vx, .iface ty vy])
  have fShared := as_Digest_Shared (.agg #[.iface tx vx, .iface ty vy])
  have fChain := as_Digest_Chain (.agg #[.iface tx vx, .iface ty vy])
  have fDigest := as_Digest_Digest (.agg #[.iface tx vx, .iface ty vy])
  have hs1 : (w.alloc (.cells #[.int .i64 0, .int .i64 0, .int .i64 0, .slice none 0 0] 52)).heap.size = w.heap.size + 1 := by simp
  have k0 : ((w.alloc (.cells #[.int .i64 0, .int .i64 0, .int .i64 0, .slice none 0 0] 52)).alloc (.cells #[.iface tx vx, .iface ty vy] 39)).cell? ⟨w.heap.size + 1, 0, none⟩ = some (.iface tx vx) := by have h := heap_alloc_new (w.alloc (.cells #[.int .i64 0, .int .i64 0, .int .i64 0, .slice none 0 0] 52)) (.cells #[.iface tx vx, .iface ty vy] 39); rw [hs1] at h; rw [cell_of_row _ _ _ _ _ _ h]; rfl
  have k1 : ((w.alloc (.cells #[.int .i64 0, .int .i64 0, .int .i64 0, .slice none 0 0] 52)).alloc (.cells #[.iface tx vx, .iface ty vy] 39)).cell? ⟨w.heap.size + 1, 1, none⟩ = some (.iface ty vy) := by have h := heap_alloc_new (w.alloc (.cells #[.int .i64 0, .int .i64 0, .int .i64 0, .slice none 0 0] 52)) (.cells #[.iface tx vx, .iface ty vy] 39); rw [hs1] at h; rw [cell_of_row _ _ _ _ _ _ h]; rfl
  have hb1 := bel1 w (.cells #[.int .i64 0, .int .i64 0, .int .i64 0, .slice none 0 0] 52)
  have HB : Hid (Below w.heap.size w ((w.alloc (.cells #[.int .i64 0, .int .i64 0, .int .i64 0, .slice none 0 0] 52)).alloc (.cells #[.iface tx vx, .iface ty vy] 39))) := hb1.trans ((bel1 (w.alloc (.cells #[.int .i64 0, .int .i64 0, .int .i64 0, .slice none 0 0] 52)) _).mono hb1.size)
  have A2 : ((w.alloc (.cells #[.int .i64 0, .int .i64 0, .int .i64 0, .slice none 0 0] 52)).alloc (.cells #[.iface tx vx, .iface ty vy] 39)).there w.heap.size 0 4 := there_later (bel1 _ _) (there_new w 4 _ rfl 52)
  have kz : w.heap.size + 1 < ((w.alloc (.cells #[.int .i64 0, .int .i64 0, .int .i64 0, .slice none 0 0] 52)).alloc (.cells #[.iface tx vx, .iface ty vy] 39)).heap.size := by have h := (bel1 (w.alloc (.cells #[.int .i64 0, .int .i64 0, .int .i64 0, .slice none 0 0] 52)) (.cells #[.iface tx vx, .iface ty vy] 39)).size; have := World.block_lt_of_cell? _ _ k0; exact this
  clear px py hb1
  go_enter Tryd.func21, Tryd.ntmps21
  go_upto_region 19 with fail
  obtain ⟨W0, hW0⟩ : ∃ z, z = ((w.alloc (.cells #[.int .i64 0, .int .i64 0, .int .i64 0, .slice none 0 0] 52)).alloc (.cells #[.iface tx vx, .iface ty vy] 39)) := ⟨_, rfl⟩
  obtain ⟨q7, hq7⟩ : ∃ z, z = w.heap.size + 1 := ⟨_, rfl⟩
  obtain ⟨q2, hq2⟩ : ∃ z, z = w.heap.size := ⟨_, rfl⟩
  have hne : q7 ≠ q2 := by omega
  rw [← hW0] at HB A2 kz k0 k1
  rw [← hq7] at kz k0 k1
  rw [← hq2] at A2
  rw [← hW0, ← hq7, ← hq2]
  have HQ : Hid (q2 = w.heap.size) := hq2
  have HZ : Hid (q2 < W0.heap.size) := by unfold Hid; omega
  clear hW0 hq7 hq2 hs1 kz fEmpty fAtom fPublic fShared fChain fDigest
  refine wp_region_noPanic ?_
  refine wp_region_held_drew (S := EtB q2 W0) (by kernel_rfl) (EtB.mk (ExtB.refl q2 W0) A2).drew (fun hH => ?_)
  change wpAnyH _ _ _ _ _ _ #[false, false, false, false, false, false, false, false, false] _ _
  refine wpAnyH_take (i := 0) (oi := ?o0d) (v := ?v0d) ?h0d (by kernel_rfl) ?f0d ?r0d (fun _ _ _ h => h) (Or.inl ⟨?w0d, ?y0d⟩) (by assumption) ?t0d
  case h0d => simp only [List.getElem?_toArray]; rfl
  case f0d => kernel_rfl
  case r0d => kernel_rfl
  case w0d => rfl
  case y0d => (intro u hu; (go_simp) <;> with_reducible rfl)
  try simp only [Act.put, List.setIfInBounds_toArray, List.set_cons_zero, List.set_cons_succ]
  refine wpAnyH_take (i := 1) (oi := ?o1d) (v := ?v1d) ?h1d (by kernel_rfl) ?f1d ?r1d (fun _ _ _ h => h) (Or.inl ⟨?w1d, ?y1d⟩) (by assumption) ?t1d
  case h1d => simp only [List.getElem?_toArray]; rfl
  case f1d => kernel_rfl
  case r1d => kernel_rfl
  case w1d => rfl
  case y1d => (intro u hu; (have hx := hu.ex.cell hne k0; go_simp) <;> with_reducible rfl)
  try simp only [Act.put, List.setIfInBounds_toArray, List.set_cons_zero, List.set_cons_succ]
  refine wpAnyH_take (i := 3) (oi := ?o3d) (v := ?v3d) ?h3d (by kernel_rfl) ?f3d ?r3d (fun _ _ _ h => h) (Or.inl ⟨?w3d, ?y3d⟩) (by assumption) ?t3d
  case h3d => simp only [List.getElem?_toArray]; rfl
  case f3d => kernel_rfl
  case r3d => kernel_rfl
  case w3d => rfl
  case y3d => (intro u hu; (go_simp) <;> with_reducible rfl)
  try simp only [Act.put, List.setIfInBounds_toArray, List.set_cons_zero, List.set_cons_succ]
  refine wpAnyH_take (i := 4) (oi := ?o4d) (v := ?v4d) ?h4d (by kernel_rfl) ?f4d ?r4d (fun _ _ _ h => h) (Or.inl ⟨?w4d, ?y4d⟩) (by assumption) ?t4d
  case h4d => simp only [List.getElem?_toArray]; rfl
  case f4d => kernel_rfl
  case r4d => kernel_rfl
  case w4d => rfl
  case y4d => (intro u hu; (have hx := hu.ex.cell hne k1; go_simp) <;> with_reducible rfl)
  try simp only [Act.put, List.setIfInBounds_toArray, List.set_cons_zero, List.set_cons_succ]
  refine wpAnyH_ready (rs := [2]) (by kernel_rfl) (by simp) ?_
  refine AllReadyH.cons (o := ?o2d) ?h2d (fun K hK => ?_) AllReadyH.nil
  case h2d => simp only [List.getElem?_toArray]; rfl
  go_simp
  refine (hx.out _).mono ?_
  rintro e V0 ⟨cx, rfl, lx, Rx, hb⟩
  replace Rx : Hid (Rt V0 W0.heap.size cx nx) := Rx.out.mono hH.ex.size
  refine hK.out _ _ (hH.trans hb) (fun hH' => ?_)
  clear hK K hH
  have hH := hH'
  clear hH'
  try simp only [List.setIfInBounds_toArray, List.set]
  clear hb
  refine wpAnyH_ready (rs := [5]) (by kernel_rfl) (by simp) ?_
  refine AllReadyH.cons (o := ?o5d) ?h5d (fun K hK => ?_) AllReadyH.nil
  case h5d => simp only [List.getElem?_toArray]; rfl
  go_simp
  refine (hy.out _).mono ?_
  rintro e V1 ⟨cy, rfl, ly, Ry, hb⟩
  replace Ry : Hid (Rt V1 W0.heap.size cy ny) := Ry.out.mono hH.ex.size
  replace Rx : Hid (Rt V1 W0.heap.size cx nx) := Rx.out.later hb
  refine hK.out _ _ (hH.trans hb) (fun hH' => ?_)
  clear hK K hH
  have hH := hH'
  clear hH'
  try simp only [List.setIfInBounds_toArray, List.set]
  clear hb
  refine wpAnyH_ready (rs := [6]) (by kernel_rfl) (by simp) ?_
  refine AllReadyH.cons (o := ?obd) ?hbd (fun K hK => ?_) AllReadyH.nil
  case hbd => simp only [List.getElem?_toArray]; rfl
  refine step_t2 rfl (.tmp 53) (.tmp 56) rfl cx cy lx ly rfl rfl ?_
  have hb := bel1 V1 (.cells (cx ++ cy).toArray 52)
  have hrng := rng_new V1 (cx ++ cy) 52
  have hsz := hH.ex.size
  replace Rx : Hid (Rt (V1.alloc (.cells (cx ++ cy).toArray 52)) W0.heap.size cx nx) := Rx.out.later hb
  replace Ry : Hid (Rt (V1.alloc (.cells (cx ++ cy).toArray 52)) W0.heap.size cy ny) := Ry.out.later hb
  refine hK.out _ _ (hH.trans hb) (fun hH' => ?_)
  clear hK K hH
  have hH := hH'
  clear hH'
  try simp only [List.setIfInBounds_toArray, List.set]
  obtain ⟨U, hU⟩ : ∃ z, z = V1.alloc (.cells (cx ++ cy).toArray 52) := ⟨_, rfl⟩
  obtain ⟨gs, hgs⟩ : ∃ z, z = V1.heap.size := ⟨_, rfl⟩
  rw [← hU] at hH hrng Rx Ry ⊢
  rw [← hgs] at hrng hsz ⊢
  clear hb hU hgs
  refine wpAnyH_take (i := 7) (oi := ?o7d) (v := ?v7d) ?h7d (by kernel_rfl) ?f7d ?r7d (fun _ _ _ h => h) (Or.inl ⟨?w7d, ?y7d⟩) (by assumption) ?t7d
  case h7d => simp only [List.getElem?_toArray]; rfl
  case f7d => kernel_rfl
  case r7d => kernel_rfl
  case w7d => rfl
  case y7d => (intro u hu; (go_simp) <;> with_reducible rfl)
  try simp only [Act.put, List.setIfInBounds_toArray, List.set_cons_zero, List.set_cons_succ]
  have hth : U.there q2 0 4 := hH.th
  refine wpAnyH_ready (rs := [8]) (by kernel_rfl) (by simp) ?_
  refine AllReadyH.cons (o := ?osd) ?hsd (fun K hK => ?_) AllReadyH.nil
  case hsd => simp only [List.getElem?_toArray]; rfl
  refine wp_store_mid 52 (.tmp 2) (.tmp 58) rfl q2 0 [.int .i64 6, .int .i64 0, .int .i64 0, .slice (some ⟨gs, 0, none⟩) 2 2].toArray rfl rfl hth (by kernel_rfl) (by simp [Value.oneCell']) ?_
  have hx0 : ExtB q2 U (U.setCells q2 0 [.int .i64 6, .int .i64 0, .int .i64 0, .slice (some ⟨gs, 0, none⟩) 2 2]) := extB_setCells _ _ _ (ExtB.refl _ _)
  refine hK.out _ _ (EtB.mk (extB_setCells _ _ _ hH.ex) (World.there_setCells hH.th _ _ _)) (fun hH' => ?_)
  clear hK K hH
  have hH := hH'
  clear hH'
  try simp only [List.setIfInBounds_toArray, List.set]
  refine wpAnyH_done (by kernel_rfl) ?_ _
  refine NoPanic.normal ?_
  have hR := World.rangeAt_setCells_same U q2 0 [.int .i64 6, .int .i64 0, .int .i64 0, .slice (some ⟨gs, 0, none⟩) 2 2] (by simpa using hth)
  have hld := run_loadVar_mid (P := Tryd.prog) _ _ 0 52 _ _ hR Tryd.underlying52 rfl (by kernel_rfl)
  have hbel : Below w.heap.size w (U.setCells q2 0 [.int .i64 6, .int .i64 0, .int .i64 0, .slice (some ⟨gs, 0, none⟩) 2 2]) := hH.ex.below HB.out (by have := HQ.out; omega)
  have hgq : q2 < gs := by have := HZ.out; omega
  have hRt : Hid (Rt (U.setCells q2 0 [.int .i64 6, .int .i64 0, .int .i64 0, .slice (some ⟨gs, 0, none⟩) 2 2]) w.heap.size [.int .i64 6, .int .i64 0, .int .i64 0, .slice (some ⟨gs, 0, none⟩) 2 2] (dgN nx ny)) := by
    refine Rt.mono (base := W0.heap.size) ?_ HB.out.size
    exact Rt.digest hsz lx ly (fun j v hv => hx0.cell (by omega) (hrng j v hv)) (Rx.out.extb hx0 HZ.out) (Ry.out.extb hx0 HZ.out)
  go_wp2
  exact bodyPost_ret (v := .agg [.int .i64 6, .int .i64 0, .int .i64 0, .slice (some ⟨gs, 0, none⟩) 2 2].toArray) (by simp [results, Tryd.results21]; exact hld) rfl ⟨[.int .i64 6, .int .i64 0, .int .i64 0, .slice (some ⟨gs, 0, none⟩) 2 2], rfl, rfl, hRt, hbel⟩
set_option maxRecDepth 8000 in
set_option maxHeartbeats 4000000 in
theorem plain_Box (n : Int) (tx ty tz : TypeId) (vx vy vz : Value) (nx ny nz : List UInt8) (n0 : -9223372036854775808 ≤ n) (n1 : n ≤ 9223372036854775807) (px : Plained (.iface tx vx) nx) (py : Plained (.iface ty vy) ny) (pz : Plained (.iface tz vz) nz) : Plained (.iface 31 (.agg #[.iface tx vx, .int .i64 n, .iface ty vy, .iface tz vz])) (bxN n nx ny nz) := by
  intro w
  have hx : Hid (Plained (.iface tx vx) nx) := px
  have hy : Hid (Plained (.iface ty vy) ny) := py
  have hz : Hid (Plained (.iface tz vz) nz) := pz
  have fEmpty := as_Box_Empty (.agg #[.iface tx vx, .int .i64 n, .iface ty vy, .iface tz vz])
  have fAtom := as_Box_Atom (.agg #[.iface tx vx, .int .i64 n, .iface ty vy, .iface tz vz])
  have fPublic := as_Box_Public (.agg #[.iface tx vx, .int .i64 n, .iface ty vy, .iface tz vz])
  have fShared := as_Box_Shared (.agg #[.iface tx vx, .int .i64 n, .iface ty vy, .iface tz vz])
  have fChain := as_Box_Chain (.agg #[.iface tx vx, .int .i64 n, .iface ty vy, .iface tz vz])
  have fDigest := as_Box_Digest (.agg #[.iface tx vx, .int .i64 n, .iface ty vy, .iface tz vz])
  have fBox := as_Box_Box (.agg #[.iface tx vx, .int .i64 n, .iface ty vy, .iface tz vz])
  have hs1 : (w.alloc (.cells #[.int .i64 0, .int .i64 0, .int .i64 0, .slice none 0 0] 52)).heap.size = w.heap.size + 1 := by simp
  have k0 : ((w.alloc (.cells #[.int .i64 0, .int .i64 0, .int .i64 0, .slice none 0 0] 52)).alloc (.cells #[.iface tx vx, .int .i64 n, .iface ty vy, .iface tz vz] 31)).cell? ⟨w.heap.size + 1, 0, none⟩ = some (.iface tx vx) := by have h := heap_alloc_new (w.alloc (.cells #[.int .i64 0, .int .i64 0, .int .i64 0, .slice none 0 0] 52)) (.cells #[.iface tx vx, .int .i64 n, .iface ty vy, .iface tz vz] 31); rw [hs1] at h; rw [cell_of_row _ _ _ _ _ _ h]; rfl
  have k1 : ((w.alloc (.cells #[.int .i64 0, .int .i64 0, .int .i64 0, .slice none 0 0] 52)).alloc (.cells #[.iface tx vx, .int .i64 n, .iface ty vy, .iface tz vz] 31)).cell? ⟨w.heap.size + 1, 1, none⟩ = some (.int .i64 n) := by have h := heap_alloc_new (w.alloc (.cells #[.int .i64 0, .int .i64 0, .int .i64 0, .slice none 0 0] 52)) (.cells #[.iface tx vx, .int .i64 n, .iface ty vy, .iface tz vz] 31); rw [hs1] at h; rw [cell_of_row _ _ _ _ _ _ h]; rfl
  have k2 : ((w.alloc (.cells #[.int .i64 0, .int .i64 0, .int .i64 0, .slice none 0 0] 52)).alloc (.cells #[.iface tx vx, .int .i64 n, .iface ty vy, .iface tz vz] 31)).cell? ⟨w.heap.size + 1, 2, none⟩ = some (.iface ty vy) := by have h := heap_alloc_new (w.alloc (.cells #[.int .i64 0, .int .i64 0, .int .i64 0, .slice none 0 0] 52)) (.cells #[.iface tx vx, .int .i64 n, .iface ty vy, .iface tz vz] 31); rw [hs1] at h; rw [cell_of_row _ _ _ _ _ _ h]; rfl
  have k3 : ((w.alloc (.cells #[.int .i64 0, .int .i64 0, .int .i64 0, .slice none 0 0] 52)).alloc (.cells #[.iface tx vx, .int .i64 n, .iface ty vy, .iface tz vz] 31)).cell? ⟨w.heap.size + 1, 3, none⟩ = some (.iface tz vz) := by have h := heap_alloc_new (w.alloc (.cells #[.int .i64 0, .int .i64 0, .int .i64 0, .slice none 0 0] 52)) (.cells #[.iface tx vx, .int .i64 n, .iface ty vy, .iface tz vz] 31); rw [hs1] at h; rw [cell_of_row _ _ _ _ _ _ h]; rfl
  have hb1 := bel1 w (.cells #[.int .i64 0, .int .i64 0, .int .i64 0, .slice none 0 0] 52)
  have HB : Hid (Below w.heap.size w ((w.alloc (.cells #[.int .i64 0, .int .i64 0, .int .i64 0, .slice none 0 0] 52)).alloc (.cells #[.iface tx vx, .int .i64 n, .iface ty vy, .iface tz vz] 31))) := hb1.trans ((bel1 (w.alloc (.cells #[.int .i64 0, .int .i64 0, .int .i64 0, .slice none 0 0] 52)) _).mono hb1.size)
  have A2 : ((w.alloc (.cells #[.int .i64 0, .int .i64 0, .int .i64 0, .slice none 0 0] 52)).alloc (.cells #[.iface tx vx, .int .i64 n, .iface ty vy, .iface tz vz] 31)).there w.heap.size 0 4 := there_later (bel1 _ _) (there_new w 4 _ rfl 52)
  have kz : w.heap.size + 1 < ((w.alloc (.cells #[.int .i64 0, .int .i64 0, .int .i64 0, .slice none 0 0] 52)).alloc (.cells #[.iface tx vx, .int .i64 n, .iface ty vy, .iface tz vz] 31)).heap.size := by have h := (bel1 (w.alloc (.cells #[.int .i64 0, .int .i64 0, .int .i64 0, .slice none 0 0] 52)) (.cells #[.iface tx vx, .int .i64 n, .iface ty vy, .iface tz vz] 31)).size; have := World.block_lt_of_cell? _ _ k0; exact this
  clear px py pz hb1
  go_enter Tryd.func21, Tryd.ntmps21
  go_upto_region 22 with fail
  obtain ⟨W0, hW0⟩ : ∃ z, z = ((w.alloc (.cells #[.int .i64 0, .int .i64 0, .int .i64 0, .slice none 0 0] 52)).alloc (.cells #[.iface tx vx, .int .i64 n, .iface ty vy, .iface tz vz] 31)) := ⟨_, rfl⟩
  obtain ⟨q7, hq7⟩ : ∃ z, z = w.heap.size + 1 := ⟨_, rfl⟩
  obtain ⟨q2, hq2⟩ : ∃ z, z = w.heap.size := ⟨_, rfl⟩
  have hne : q7 ≠ q2 := by omega
  rw [← hW0] at HB A2 kz k0 k1 k2 k3
  rw [← hq7] at kz k0 k1 k2 k3
  rw [← hq2] at A2
  rw [← hW0, ← hq7, ← hq2]
  have HQ : Hid (q2 = w.heap.size) := hq2
  have HZ : Hid (q2 < W0.heap.size) := by unfold Hid; omega
  clear hW0 hq7 hq2 hs1 kz fEmpty fAtom fPublic fShared fChain fDigest fBox
  refine wp_region_noPanic ?_
  refine wp_region_held_drew (S := EtB q2 W0) (by kernel_rfl) (EtB.mk (ExtB.refl q2 W0) A2).drew (fun hH => ?_)
  change wpAnyH _ _ _ _ _ _ #[false, false, false, false, false, false, false, false, false, false, false, false, false, false] _ _
  refine wpAnyH_take (i := 0) (oi := ?o0b) (v := ?v0b) ?h0b (by kernel_rfl) ?f0b ?r0b (fun _ _ _ h => h) (Or.inl ⟨?w0b, ?y0b⟩) (by assumption) ?t0b
  case h0b => simp only [List.getElem?_toArray]; rfl
  case f0b => kernel_rfl
  case r0b => kernel_rfl
  case w0b => rfl
  case y0b => (intro u hu; (go_simp) <;> with_reducible rfl)
  try simp only [Act.put, List.setIfInBounds_toArray, List.set_cons_zero, List.set_cons_succ]
  refine wpAnyH_take (i := 1) (oi := ?o1b) (v := ?v1b) ?h1b (by kernel_rfl) ?f1b ?r1b (fun _ _ _ h => h) (Or.inl ⟨?w1b, ?y1b⟩) (by assumption) ?t1b
  case h1b => simp only [List.getElem?_toArray]; rfl
  case f1b => kernel_rfl
  case r1b => kernel_rfl
  case w1b => rfl
  case y1b => (intro u hu; (have hx := hu.ex.cell hne k1; go_simp) <;> with_reducible rfl)
  try simp only [Act.put, List.setIfInBounds_toArray, List.set_cons_zero, List.set_cons_succ]
  refine wpAnyH_take (i := 2) (oi := ?o2b) (v := ?v2b) ?h2b (by kernel_rfl) ?f2b ?r2b (fun _ _ _ h => h) (Or.inl ⟨?w2b, ?y2b⟩) (by assumption) ?t2b
  case h2b => simp only [List.getElem?_toArray]; rfl
  case f2b => kernel_rfl
  case r2b => kernel_rfl
  case w2b => rfl
  case y2b => (intro u hu; (go_simp) <;> with_reducible rfl)
  try simp only [Act.put, List.setIfInBounds_toArray, List.set_cons_zero, List.set_cons_succ]
  refine wpAnyH_take (i := 3) (oi := ?o3b) (v := ?v3b) ?h3b (by kernel_rfl) ?f3b ?r3b (fun _ _ _ h => h) (Or.inl ⟨?w3b, ?y3b⟩) (by assumption) ?t3b
  case h3b => simp only [List.getElem?_toArray]; rfl
  case f3b => kernel_rfl
  case r3b => kernel_rfl
  case w3b => rfl
  case y3b => (intro u hu; (have hx := hu.ex.cell hne k0; go_simp) <;> with_reducible rfl)
  try simp only [Act.put, List.setIfInBounds_toArray, List.set_cons_zero, List.set_cons_succ]
  refine wpAnyH_take (i := 5) (oi := ?o5b) (v := ?v5b) ?h5b (by kernel_rfl) ?f5b ?r5b (fun _ _ _ h => h) (Or.inl ⟨?w5b, ?y5b⟩) (by assumption) ?t5b
  case h5b => simp only [List.getElem?_toArray]; rfl
  case f5b => kernel_rfl
  case r5b => kernel_rfl
  case w5b => rfl
  case y5b => (intro u hu; (go_simp) <;> with_reducible rfl)
  try simp only [Act.put, List.setIfInBounds_toArray, List.set_cons_zero, List.set_cons_succ]
  refine wpAnyH_take (i := 6) (oi := ?o6b) (v := ?v6b) ?h6b (by kernel_rfl) ?f6b ?r6b (fun _ _ _ h => h) (Or.inl ⟨?w6b, ?y6b⟩) (by assumption) ?t6b
  case h6b => simp only [List.getElem?_toArray]; rfl
  case f6b => kernel_rfl
  case r6b => kernel_rfl
  case w6b => rfl
  case y6b => (intro u hu; (have hx := hu.ex.cell hne k2; go_simp) <;> with_reducible rfl)
  try simp only [Act.put, List.setIfInBounds_toArray, List.set_cons_zero, List.set_cons_succ]
  refine wpAnyH_take (i := 8) (oi := ?o8b) (v := ?v8b) ?h8b (by kernel_rfl) ?f8b ?r8b (fun _ _ _ h => h) (Or.inl ⟨?w8b, ?y8b⟩) (by assumption) ?t8b
  case h8b => simp only [List.getElem?_toArray]; rfl
  case f8b => kernel_rfl
  case r8b => kernel_rfl
  case w8b => rfl
  case y8b => (intro u hu; (go_simp) <;> with_reducible rfl)
  try simp only [Act.put, List.setIfInBounds_toArray, List.set_cons_zero, List.set_cons_succ]
  refine wpAnyH_take (i := 9) (oi := ?o9b) (v := ?v9b) ?h9b (by kernel_rfl) ?f9b ?r9b (fun _ _ _ h => h) (Or.inl ⟨?w9b, ?y9b⟩) (by assumption) ?t9b
  case h9b => simp only [List.getElem?_toArray]; rfl
  case f9b => kernel_rfl
  case r9b => kernel_rfl
  case w9b => rfl
  case y9b => (intro u hu; (have hx := hu.ex.cell hne k3; go_simp) <;> with_reducible rfl)
  try simp only [Act.put, List.setIfInBounds_toArray, List.set_cons_zero, List.set_cons_succ]
  refine wpAnyH_ready (rs := [4]) (by kernel_rfl) (by simp) ?_
  refine AllReadyH.cons (o := ?o4b) ?h4b (fun K hK => ?_) AllReadyH.nil
  case h4b => simp only [List.getElem?_toArray]; rfl
  go_simp
  refine (hx.out _).mono ?_
  rintro e V0 ⟨cx, rfl, lx, Rx, hb⟩
  replace Rx : Hid (Rt V0 W0.heap.size cx nx) := Rx.out.mono hH.ex.size
  refine hK.out _ _ (hH.trans hb) (fun hH' => ?_)
  clear hK K hH
  have hH := hH'
  clear hH'
  try simp only [List.setIfInBounds_toArray, List.set]
  clear hb
  refine wpAnyH_ready (rs := [7]) (by kernel_rfl) (by simp) ?_
  refine AllReadyH.cons (o := ?o7b) ?h7b (fun K hK => ?_) AllReadyH.nil
  case h7b => simp only [List.getElem?_toArray]; rfl
  go_simp
  refine (hy.out _).mono ?_
  rintro e V1 ⟨cy, rfl, ly, Ry, hb⟩
  replace Ry : Hid (Rt V1 W0.heap.size cy ny) := Ry.out.mono hH.ex.size
  replace Rx : Hid (Rt V1 W0.heap.size cx nx) := Rx.out.later hb
  refine hK.out _ _ (hH.trans hb) (fun hH' => ?_)
  clear hK K hH
  have hH := hH'
  clear hH'
  try simp only [List.setIfInBounds_toArray, List.set]
  clear hb
  refine wpAnyH_ready (rs := [10]) (by kernel_rfl) (by simp) ?_
  refine AllReadyH.cons (o := ?o10b) ?h10b (fun K hK => ?_) AllReadyH.nil
  case h10b => simp only [List.getElem?_toArray]; rfl
  go_simp
  refine (hz.out _).mono ?_
  rintro e V2 ⟨cz, rfl, lz, Rz, hb⟩
  replace Rz : Hid (Rt V2 W0.heap.size cz nz) := Rz.out.mono hH.ex.size
  replace Rx : Hid (Rt V2 W0.heap.size cx nx) := Rx.out.later hb
  replace Ry : Hid (Rt V2 W0.heap.size cy ny) := Ry.out.later hb
  refine hK.out _ _ (hH.trans hb) (fun hH' => ?_)
  clear hK K hH
  have hH := hH'
  clear hH'
  try simp only [List.setIfInBounds_toArray, List.set]
  clear hb
  refine wpAnyH_ready (rs := [11]) (by kernel_rfl) (by simp) ?_
  refine AllReadyH.cons (o := ?obb) ?hbb (fun K hK => ?_) AllReadyH.nil
  case hbb => simp only [List.getElem?_toArray]; rfl
  refine step_t3 rfl (.tmp 66) (.tmp 69) (.tmp 72) rfl cx cy cz lx ly lz rfl rfl rfl ?_
  have hb := bel1 V2 (.cells (cx ++ (cy ++ cz)).toArray 52)
  have hrng := rng_new V2 (cx ++ (cy ++ cz)) 52
  have hsz := hH.ex.size
  replace Rx : Hid (Rt (V2.alloc (.cells (cx ++ (cy ++ cz)).toArray 52)) W0.heap.size cx nx) := Rx.out.later hb
  replace Ry : Hid (Rt (V2.alloc (.cells (cx ++ (cy ++ cz)).toArray 52)) W0.heap.size cy ny) := Ry.out.later hb
  replace Rz : Hid (Rt (V2.alloc (.cells (cx ++ (cy ++ cz)).toArray 52)) W0.heap.size cz nz) := Rz.out.later hb
  refine hK.out _ _ (hH.trans hb) (fun hH' => ?_)
  clear hK K hH
  have hH := hH'
  clear hH'
  try simp only [List.setIfInBounds_toArray, List.set]
  obtain ⟨U, hU⟩ : ∃ z, z = V2.alloc (.cells (cx ++ (cy ++ cz)).toArray 52) := ⟨_, rfl⟩
  obtain ⟨gs, hgs⟩ : ∃ z, z = V2.heap.size := ⟨_, rfl⟩
  rw [← hU] at hH hrng Rx Ry Rz ⊢
  rw [← hgs] at hrng hsz ⊢
  clear hb hU hgs
  refine wpAnyH_take (i := 12) (oi := ?o12b) (v := ?v12b) ?h12b (by kernel_rfl) ?f12b ?r12b (fun _ _ _ h => h) (Or.inl ⟨?w12b, ?y12b⟩) (by assumption) ?t12b
  case h12b => simp only [List.getElem?_toArray]; rfl
  case f12b => kernel_rfl
  case r12b => kernel_rfl
  case w12b => rfl
  case y12b => (intro u hu; (go_simp) <;> with_reducible rfl)
  try simp only [Act.put, List.setIfInBounds_toArray, List.set_cons_zero, List.set_cons_succ]
  have hth : U.there q2 0 4 := hH.th
  refine wpAnyH_ready (rs := [13]) (by kernel_rfl) (by simp) ?_
  refine AllReadyH.cons (o := ?osb) ?hsb (fun K hK => ?_) AllReadyH.nil
  case hsb => simp only [List.getElem?_toArray]; rfl
  refine wp_store_mid 52 (.tmp 2) (.tmp 74) rfl q2 0 [.int .i64 7, .int .i64 n, .int .i64 0, .slice (some ⟨gs, 0, none⟩) 3 3].toArray rfl rfl hth (by kernel_rfl) (by simp [Value.oneCell']) ?_
  have hx0 : ExtB q2 U (U.setCells q2 0 [.int .i64 7, .int .i64 n, .int .i64 0, .slice (some ⟨gs, 0, none⟩) 3 3]) := extB_setCells _ _ _ (ExtB.refl _ _)
  refine hK.out _ _ (EtB.mk (extB_setCells _ _ _ hH.ex) (World.there_setCells hH.th _ _ _)) (fun hH' => ?_)
  clear hK K hH
  have hH := hH'
  clear hH'
  try simp only [List.setIfInBounds_toArray, List.set]
  refine wpAnyH_done (by kernel_rfl) ?_ _
  refine NoPanic.normal ?_
  have hR := World.rangeAt_setCells_same U q2 0 [.int .i64 7, .int .i64 n, .int .i64 0, .slice (some ⟨gs, 0, none⟩) 3 3] (by simpa using hth)
  have hld := run_loadVar_mid (P := Tryd.prog) _ _ 0 52 _ _ hR Tryd.underlying52 rfl (by kernel_rfl)
  have hbel : Below w.heap.size w (U.setCells q2 0 [.int .i64 7, .int .i64 n, .int .i64 0, .slice (some ⟨gs, 0, none⟩) 3 3]) := hH.ex.below HB.out (by have := HQ.out; omega)
  have hgq : q2 < gs := by have := HZ.out; omega
  have hRt : Hid (Rt (U.setCells q2 0 [.int .i64 7, .int .i64 n, .int .i64 0, .slice (some ⟨gs, 0, none⟩) 3 3]) w.heap.size [.int .i64 7, .int .i64 n, .int .i64 0, .slice (some ⟨gs, 0, none⟩) 3 3] (bxN n nx ny nz)) := by
    refine Rt.mono (base := W0.heap.size) ?_ HB.out.size
    exact Rt.box n n0 n1 hsz lx ly lz (fun j v hv => hx0.cell (by omega) (hrng j v hv)) (Rx.out.extb hx0 HZ.out) (Ry.out.extb hx0 HZ.out) (Rz.out.extb hx0 HZ.out)
  go_wp2
  exact bodyPost_ret (v := .agg [.int .i64 7, .int .i64 n, .int .i64 0, .slice (some ⟨gs, 0, none⟩) 3 3].toArray) (by simp [results, Tryd.results21]; exact hld) rfl ⟨[.int .i64 7, .int .i64 n, .int .i64 0, .slice (some ⟨gs, 0, none⟩) 3 3], rfl, rfl, hRt, hbel⟩
end Go.Proofs.YtifcdmiopanedaaDoor
