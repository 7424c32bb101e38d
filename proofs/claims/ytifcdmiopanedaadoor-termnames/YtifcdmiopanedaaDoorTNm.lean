/-
  What term's named, Same and the Name methods answer. No statement of the seat is proved here.
-/
import Derived.Test.YtifcdmiopanedaaDoorTApp
import Derived.Test.YtifcdmiopanedaaDoorTVal
import Derived.Laws.IdiomStrings
namespace Go.Proofs.YtifcdmiopanedaaDoor
open Go.RowKit
set_option linter.unusedVariables false
set_option linter.unusedSimpArgs false
set_option linter.unnecessarySimpa false

/-- The table of powers of ten holds what its initialiser lays. -/
def Gt (w : World) : Prop := ∀ nm, Tryd.prog.globalNamed nm = some 0 → Lib.TabIs Tryd.prog w nm .u64 Lib.pow10Tab
theorem Gt.tab {w : World} (h : Gt w) : Tab w.heap.size w := fun nm hn => Lib.tabBelow_of_tabIs (h nm hn)
theorem Gt.later {w u : World} (h : Gt w) (hb : Below w.heap.size w u) : Gt u := fun nm hn => (((Gt.tab h).on hb) nm hn).here
theorem Gt.drew {w : World} (h : Gt w) : Gt w.drew := h.later ⟨rfl, rfl, rfl, Nat.le_refl _, fun _ _ => rfl⟩
theorem Tm.wrote {t : TypeId} {v : Value} {l : List UInt8} {s : Nat} (h : Tm t v l s) : Wrote (.iface t v) l :=
  h (fun t v l _ => Wrote (.iface t v) l)
    (wrote_Empty)
    (fun n n0 n1 => wrote_Atom n n0 n1)
    (fun n n0 n1 => wrote_Public n n0 n1)
    (fun n m n0 n1 m0 m1 => wrote_Shared n m n0 n1 m0 m1)
    (fun n tx vx ty vy nx ny sx sy n0 n1 px py => wrote_Chain n tx vx nx ty vy ny n0 n1 px py)
    (fun tx vx ty vy nx ny sx sy px py => wrote_Digest tx vx nx ty vy ny px py)
    (fun n tx vx ty vy tz vz nx ny nz sx sy sz n0 n1 px py pz => wrote_Box n tx vx nx ty vy ny tz vz nz n0 n1 px py pz)
set_option maxRecDepth 8000 in
set_option maxHeartbeats 4000000 in
theorem named_c {v : Value} {l : List UInt8} (h : Wrote v l) (hp : 0 < l.length) (hl : l.length + 64 ≤ 140737488355328) (w : World) (hg : Gt w) :
    Calls Tryd.prog 22 #[v] w fun e u => e = .returned (.string ⟨l.toArray⟩) ∧ Below w.heap.size w u := by
  have HC : Hid (∀ w', w' = w → Calls Tryd.prog 27 #[.slice none 0 0, v] w' fun e u => ∃ v', e = .returned v' ∧ Nm w.heap.size u v' l ∧ Below w.heap.size w u) := by
    rintro w' rfl
    refine (h w'.heap.size (.slice none 0 0) [] w' (World.ownsRow_nil _ _ _ _) (Nat.le_refl _) (by simpa using hl) hg.tab).mono ?_
    rintro e u ⟨v', rfl, k1, k2⟩
    exact ⟨v', rfl, by simpa using k1, k2.bel⟩
  have HP : Hid (0 < l.length) := hp
  clear h hp hl hg
  go_enter Tryd.func22, Tryd.ntmps22
  go_wp2_with fail
  refine (HC.out _ rfl).mono ?_
  rintro e u ⟨v', rfl, k1, k2⟩
  have HB : Hid (Below w.heap.size w u) := k2
  clear k2 HC
  rcases k1.2 with ⟨-, h0⟩ | ⟨g, cap, cur, rfl, -, -, -, -, -, -⟩
  · have := HP.out; omega
  · have hcv := run_convert_bytes_back (P := Tryd.prog) u 69 9 5 ⟨g, 0, none⟩ cap l Tryd.underlying69 Tryd.underlying5 Tryd.underlying9 (fun j hj => k1.cells (g := g) rfl j _ (by simp [Lib.byteCells, hj]))
    clear k1
    go_wp2
    go_ret
    exact ⟨rfl, HB.out⟩
set_option maxRecDepth 8000 in
set_option maxHeartbeats 4000000 in
theorem same_c {v1 v2 : Value} {l1 l2 : List UInt8} (h1 : Wrote v1 l1) (h2 : Wrote v2 l2) (p1 : 0 < l1.length) (p2 : 0 < l2.length) (q1 : l1.length + 64 ≤ 140737488355328) (q2 : l2.length + 64 ≤ 140737488355328) (w : World) (hg : Gt w) :
    Calls Tryd.prog 13 #[v1, v2] w fun e u => e = .returned (.bool (l1 == l2)) ∧ Below w.heap.size w u := by
  have H1 : Hid (∀ w, Gt w → Calls Tryd.prog 22 #[v1] w fun e u => e = .returned (.string ⟨l1.toArray⟩) ∧ Below w.heap.size w u) := fun w hw => named_c h1 p1 q1 w hw
  have H2 : Hid (∀ w, Gt w → Calls Tryd.prog 22 #[v2] w fun e u => e = .returned (.string ⟨l2.toArray⟩) ∧ Below w.heap.size w u) := fun w hw => named_c h2 p2 q2 w hw
  have HG : Hid (Gt w) := hg
  clear h1 h2 p1 p2 q1 q2 hg
  go_enter Tryd.func13, Tryd.ntmps13
  go_wp2_with fail
  refine (H1.out _ HG.out).mono ?_
  rintro e u ⟨rfl, hb⟩
  have HB : Hid (Below w.heap.size w u) := hb
  have HG2 : Hid (Gt u) := HG.out.later hb
  clear hb HG H1
  go_wp2_with fail
  refine (H2.out _ HG2.out).mono ?_
  rintro e u2 ⟨rfl, hb⟩
  have HB2 : Hid (Below w.heap.size w u2) := HB.out.trans (hb.mono HB.out.size)
  clear hb HB HG2 H2
  go_wp2
  go_ret
  exact ⟨rfl, HB2.out⟩
set_option maxRecDepth 8000 in
set_option maxHeartbeats 4000000 in
theorem name_Empty (hl : ([95]).length + 64 ≤ 140737488355328) (w : World) (hg : Gt w) : Calls Tryd.prog 62 #[(.agg #[])] w fun e u => e = .returned (.string ⟨([95]).toArray⟩) ∧ Below w.heap.size w u := by
  have H1 : Hid (∀ w, Gt w → Calls Tryd.prog 22 #[.iface 25 (.agg #[])] w fun e u => e = .returned (.string ⟨([95]).toArray⟩) ∧ Below w.heap.size w u) := fun w hw => named_c wrote_Empty (by simp [shN, chN, dgN, bxN]) hl w hw
  have HB0 : Hid (Below w.heap.size w (w.alloc (.cells #[] 25))) := bel1 w _
  have HG : Hid (Gt (w.alloc (.cells #[] 25))) := hg.later (bel1 w _)
  have hR : (w.alloc (.cells #[] 25)).rangeAt w.heap.size 0 [] := fun j v hv => by
    rw [Nat.zero_add, cell_of_row _ _ _ _ _ _ (heap_alloc_new w _)]
    simpa using hv
  have hld := run_loadVar_mid (P := Tryd.prog) _ _ 0 25 _ _ hR Tryd.underlying25 rfl (by kernel_rfl)
  clear hg hl hR
  go_enter Tryd.func62, Tryd.ntmps62
  go_wp2_with fail
  refine (H1.out _ HG.out).mono ?_
  rintro e u ⟨rfl, hb⟩
  have HB : Hid (Below w.heap.size w u) := HB0.out.trans (hb.mono HB0.out.size)
  clear hb HB0 HG H1 hld
  go_wp2
  go_ret
  exact ⟨rfl, HB.out⟩
set_option maxRecDepth 8000 in
set_option maxHeartbeats 4000000 in
theorem name_Atom (n : Int) (n0 : -9223372036854775808 ≤ n) (n1 : n ≤ 9223372036854775807) (hl : (97 :: Lib.itoa n).length + 64 ≤ 140737488355328) (w : World) (hg : Gt w) : Calls Tryd.prog 63 #[(.agg #[.int .i64 n])] w fun e u => e = .returned (.string ⟨(97 :: Lib.itoa n).toArray⟩) ∧ Below w.heap.size w u := by
  have H1 : Hid (∀ w, Gt w → Calls Tryd.prog 22 #[.iface 27 (.agg #[.int .i64 n])] w fun e u => e = .returned (.string ⟨(97 :: Lib.itoa n).toArray⟩) ∧ Below w.heap.size w u) := fun w hw => named_c (wrote_Atom n n0 n1) (by simp [shN, chN, dgN, bxN]) hl w hw
  have HB0 : Hid (Below w.heap.size w (w.alloc (.cells #[.int .i64 n] 27))) := bel1 w _
  have HG : Hid (Gt (w.alloc (.cells #[.int .i64 n] 27))) := hg.later (bel1 w _)
  have hR : (w.alloc (.cells #[.int .i64 n] 27)).rangeAt w.heap.size 0 [.int .i64 n] := fun j v hv => by
    rw [Nat.zero_add, cell_of_row _ _ _ _ _ _ (heap_alloc_new w _)]
    simpa using hv
  have hld := run_loadVar_mid (P := Tryd.prog) _ _ 0 27 _ _ hR Tryd.underlying27 rfl (by kernel_rfl)
  clear hg hl hR
  go_enter Tryd.func63, Tryd.ntmps63
  go_wp2_with fail
  refine (H1.out _ HG.out).mono ?_
  rintro e u ⟨rfl, hb⟩
  have HB : Hid (Below w.heap.size w u) := HB0.out.trans (hb.mono HB0.out.size)
  clear hb HB0 HG H1 hld
  go_wp2
  go_ret
  exact ⟨rfl, HB.out⟩
set_option maxRecDepth 8000 in
set_option maxHeartbeats 4000000 in
theorem name_Public (n : Int) (n0 : -9223372036854775808 ≤ n) (n1 : n ≤ 9223372036854775807) (hl : (112 :: Lib.itoa n).length + 64 ≤ 140737488355328) (w : World) (hg : Gt w) : Calls Tryd.prog 61 #[(.agg #[.int .i64 n])] w fun e u => e = .returned (.string ⟨(112 :: Lib.itoa n).toArray⟩) ∧ Below w.heap.size w u := by
  have H1 : Hid (∀ w, Gt w → Calls Tryd.prog 22 #[.iface 23 (.agg #[.int .i64 n])] w fun e u => e = .returned (.string ⟨(112 :: Lib.itoa n).toArray⟩) ∧ Below w.heap.size w u) := fun w hw => named_c (wrote_Public n n0 n1) (by simp [shN, chN, dgN, bxN]) hl w hw
  have HB0 : Hid (Below w.heap.size w (w.alloc (.cells #[.int .i64 n] 23))) := bel1 w _
  have HG : Hid (Gt (w.alloc (.cells #[.int .i64 n] 23))) := hg.later (bel1 w _)
  have hR : (w.alloc (.cells #[.int .i64 n] 23)).rangeAt w.heap.size 0 [.int .i64 n] := fun j v hv => by
    rw [Nat.zero_add, cell_of_row _ _ _ _ _ _ (heap_alloc_new w _)]
    simpa using hv
  have hld := run_loadVar_mid (P := Tryd.prog) _ _ 0 23 _ _ hR Tryd.underlying23 rfl (by kernel_rfl)
  clear hg hl hR
  go_enter Tryd.func61, Tryd.ntmps61
  go_wp2_with fail
  refine (H1.out _ HG.out).mono ?_
  rintro e u ⟨rfl, hb⟩
  have HB : Hid (Below w.heap.size w u) := HB0.out.trans (hb.mono HB0.out.size)
  clear hb HB0 HG H1 hld
  go_wp2
  go_ret
  exact ⟨rfl, HB.out⟩
set_option maxRecDepth 8000 in
set_option maxHeartbeats 4000000 in
theorem name_Shared (n m : Int) (n0 : -9223372036854775808 ≤ n) (n1 : n ≤ 9223372036854775807) (m0 : -9223372036854775808 ≤ m) (m1 : m ≤ 9223372036854775807) (hl : (shN n m).length + 64 ≤ 140737488355328) (w : World) (hg : Gt w) : Calls Tryd.prog 64 #[(.agg #[.int .i64 n, .int .i64 m])] w fun e u => e = .returned (.string ⟨(shN n m).toArray⟩) ∧ Below w.heap.size w u := by
  have H1 : Hid (∀ w, Gt w → Calls Tryd.prog 22 #[.iface 58 (.agg #[.int .i64 n, .int .i64 m])] w fun e u => e = .returned (.string ⟨(shN n m).toArray⟩) ∧ Below w.heap.size w u) := fun w hw => named_c (wrote_Shared n m n0 n1 m0 m1) (by simp [shN, chN, dgN, bxN]) hl w hw
  have HB0 : Hid (Below w.heap.size w (w.alloc (.cells #[.int .i64 n, .int .i64 m] 58))) := bel1 w _
  have HG : Hid (Gt (w.alloc (.cells #[.int .i64 n, .int .i64 m] 58))) := hg.later (bel1 w _)
  have hR : (w.alloc (.cells #[.int .i64 n, .int .i64 m] 58)).rangeAt w.heap.size 0 [.int .i64 n, .int .i64 m] := fun j v hv => by
    rw [Nat.zero_add, cell_of_row _ _ _ _ _ _ (heap_alloc_new w _)]
    simpa using hv
  have hld := run_loadVar_mid (P := Tryd.prog) _ _ 0 58 _ _ hR Tryd.underlying58 rfl (by kernel_rfl)
  clear hg hl hR
  go_enter Tryd.func64, Tryd.ntmps64
  go_wp2_with fail
  refine (H1.out _ HG.out).mono ?_
  rintro e u ⟨rfl, hb⟩
  have HB : Hid (Below w.heap.size w u) := HB0.out.trans (hb.mono HB0.out.size)
  clear hb HB0 HG H1 hld
  go_wp2
  go_ret
  exact ⟨rfl, HB.out⟩
set_option maxRecDepth 8000 in
set_option maxHeartbeats 4000000 in
theorem name_Chain (n : Int) (tx : TypeId) (vx : Value) (nx : List UInt8) (ty : TypeId) (vy : Value) (ny : List UInt8) (n0 : -9223372036854775808 ≤ n) (n1 : n ≤ 9223372036854775807) (px : Wrote (.iface tx vx) nx) (py : Wrote (.iface ty vy) ny) (hl : (chN n nx ny).length + 64 ≤ 140737488355328) (w : World) (hg : Gt w) : Calls Tryd.prog 11 #[(.agg #[.int .i64 n, .iface tx vx, .iface ty vy])] w fun e u => e = .returned (.string ⟨(chN n nx ny).toArray⟩) ∧ Below w.heap.size w u := by
  have H1 : Hid (∀ w, Gt w → Calls Tryd.prog 22 #[.iface 33 (.agg #[.int .i64 n, .iface tx vx, .iface ty vy])] w fun e u => e = .returned (.string ⟨(chN n nx ny).toArray⟩) ∧ Below w.heap.size w u) := fun w hw => named_c (wrote_Chain n tx vx nx ty vy ny n0 n1 px py) (by simp [shN, chN, dgN, bxN]) hl w hw
  have HB0 : Hid (Below w.heap.size w (w.alloc (.cells #[.int .i64 n, .iface tx vx, .iface ty vy] 33))) := bel1 w _
  have HG : Hid (Gt (w.alloc (.cells #[.int .i64 n, .iface tx vx, .iface ty vy] 33))) := hg.later (bel1 w _)
  have hR : (w.alloc (.cells #[.int .i64 n, .iface tx vx, .iface ty vy] 33)).rangeAt w.heap.size 0 [.int .i64 n, .iface tx vx, .iface ty vy] := fun j v hv => by
    rw [Nat.zero_add, cell_of_row _ _ _ _ _ _ (heap_alloc_new w _)]
    simpa using hv
  have hld := run_loadVar_mid (P := Tryd.prog) _ _ 0 33 _ _ hR Tryd.underlying33 rfl (by kernel_rfl)
  clear hg hl hR px py
  go_enter Tryd.func11, Tryd.ntmps11
  go_wp2_with fail
  refine (H1.out _ HG.out).mono ?_
  rintro e u ⟨rfl, hb⟩
  have HB : Hid (Below w.heap.size w u) := HB0.out.trans (hb.mono HB0.out.size)
  clear hb HB0 HG H1 hld
  go_wp2
  go_ret
  exact ⟨rfl, HB.out⟩
set_option maxRecDepth 8000 in
set_option maxHeartbeats 4000000 in
theorem name_ChainNil (n : Int) (tx : TypeId) (vx : Value) (nx : List UInt8) (n0 : -9223372036854775808 ≤ n) (n1 : n ≤ 9223372036854775807) (px : Wrote (.iface tx vx) nx) (hl : (chN n nx [63]).length + 64 ≤ 140737488355328) (w : World) (hg : Gt w) : Calls Tryd.prog 11 #[(.agg #[.int .i64 n, .iface tx vx, .nilIface])] w fun e u => e = .returned (.string ⟨(chN n nx [63]).toArray⟩) ∧ Below w.heap.size w u := by
  have H1 : Hid (∀ w, Gt w → Calls Tryd.prog 22 #[.iface 33 (.agg #[.int .i64 n, .iface tx vx, .nilIface])] w fun e u => e = .returned (.string ⟨(chN n nx [63]).toArray⟩) ∧ Below w.heap.size w u) := fun w hw => named_c (wrote_ChainNil n tx vx nx n0 n1 px) (by simp [shN, chN, dgN, bxN]) hl w hw
  have HB0 : Hid (Below w.heap.size w (w.alloc (.cells #[.int .i64 n, .iface tx vx, .nilIface] 33))) := bel1 w _
  have HG : Hid (Gt (w.alloc (.cells #[.int .i64 n, .iface tx vx, .nilIface] 33))) := hg.later (bel1 w _)
  have hR : (w.alloc (.cells #[.int .i64 n, .iface tx vx, .nilIface] 33)).rangeAt w.heap.size 0 [.int .i64 n, .iface tx vx, .nilIface] := fun j v hv => by
    rw [Nat.zero_add, cell_of_row _ _ _ _ _ _ (heap_alloc_new w _)]
    simpa using hv
  have hld := run_loadVar_mid (P := Tryd.prog) _ _ 0 33 _ _ hR Tryd.underlying33 rfl (by kernel_rfl)
  clear hg hl hR px
  go_enter Tryd.func11, Tryd.ntmps11
  go_wp2_with fail
  refine (H1.out _ HG.out).mono ?_
  rintro e u ⟨rfl, hb⟩
  have HB : Hid (Below w.heap.size w u) := HB0.out.trans (hb.mono HB0.out.size)
  clear hb HB0 HG H1 hld
  go_wp2
  go_ret
  exact ⟨rfl, HB.out⟩
set_option maxRecDepth 8000 in
set_option maxHeartbeats 4000000 in
theorem name_Digest (tx : TypeId) (vx : Value) (nx : List UInt8) (ty : TypeId) (vy : Value) (ny : List UInt8) (px : Wrote (.iface tx vx) nx) (py : Wrote (.iface ty vy) ny) (hl : (dgN nx ny).length + 64 ≤ 140737488355328) (w : World) (hg : Gt w) : Calls Tryd.prog 12 #[(.agg #[.iface tx vx, .iface ty vy])] w fun e u => e = .returned (.string ⟨(dgN nx ny).toArray⟩) ∧ Below w.heap.size w u := by
  have H1 : Hid (∀ w, Gt w → Calls Tryd.prog 22 #[.iface 39 (.agg #[.iface tx vx, .iface ty vy])] w fun e u => e = .returned (.string ⟨(dgN nx ny).toArray⟩) ∧ Below w.heap.size w u) := fun w hw => named_c (wrote_Digest tx vx nx ty vy ny px py) (by simp [shN, chN, dgN, bxN]) hl w hw
  have HB0 : Hid (Below w.heap.size w (w.alloc (.cells #[.iface tx vx, .iface ty vy] 39))) := bel1 w _
  have HG : Hid (Gt (w.alloc (.cells #[.iface tx vx, .iface ty vy] 39))) := hg.later (bel1 w _)
  have hR : (w.alloc (.cells #[.iface tx vx, .iface ty vy] 39)).rangeAt w.heap.size 0 [.iface tx vx, .iface ty vy] := fun j v hv => by
    rw [Nat.zero_add, cell_of_row _ _ _ _ _ _ (heap_alloc_new w _)]
    simpa using hv
  have hld := run_loadVar_mid (P := Tryd.prog) _ _ 0 39 _ _ hR Tryd.underlying39 rfl (by kernel_rfl)
  clear hg hl hR px py
  go_enter Tryd.func12, Tryd.ntmps12
  go_wp2_with fail
  refine (H1.out _ HG.out).mono ?_
  rintro e u ⟨rfl, hb⟩
  have HB : Hid (Below w.heap.size w u) := HB0.out.trans (hb.mono HB0.out.size)
  clear hb HB0 HG H1 hld
  go_wp2
  go_ret
  exact ⟨rfl, HB.out⟩
set_option maxRecDepth 8000 in
set_option maxHeartbeats 4000000 in
theorem name_Box (n : Int) (tx : TypeId) (vx : Value) (nx : List UInt8) (ty : TypeId) (vy : Value) (ny : List UInt8) (tz : TypeId) (vz : Value) (nz : List UInt8) (n0 : -9223372036854775808 ≤ n) (n1 : n ≤ 9223372036854775807) (px : Wrote (.iface tx vx) nx) (py : Wrote (.iface ty vy) ny) (pz : Wrote (.iface tz vz) nz) (hl : (bxN n nx ny nz).length + 64 ≤ 140737488355328) (w : World) (hg : Gt w) : Calls Tryd.prog 10 #[(.agg #[.iface tx vx, .int .i64 n, .iface ty vy, .iface tz vz])] w fun e u => e = .returned (.string ⟨(bxN n nx ny nz).toArray⟩) ∧ Below w.heap.size w u := by
  have H1 : Hid (∀ w, Gt w → Calls Tryd.prog 22 #[.iface 31 (.agg #[.iface tx vx, .int .i64 n, .iface ty vy, .iface tz vz])] w fun e u => e = .returned (.string ⟨(bxN n nx ny nz).toArray⟩) ∧ Below w.heap.size w u) := fun w hw => named_c (wrote_Box n tx vx nx ty vy ny tz vz nz n0 n1 px py pz) (by simp [shN, chN, dgN, bxN]) hl w hw
  have HB0 : Hid (Below w.heap.size w (w.alloc (.cells #[.iface tx vx, .int .i64 n, .iface ty vy, .iface tz vz] 31))) := bel1 w _
  have HG : Hid (Gt (w.alloc (.cells #[.iface tx vx, .int .i64 n, .iface ty vy, .iface tz vz] 31))) := hg.later (bel1 w _)
  have hR : (w.alloc (.cells #[.iface tx vx, .int .i64 n, .iface ty vy, .iface tz vz] 31)).rangeAt w.heap.size 0 [.iface tx vx, .int .i64 n, .iface ty vy, .iface tz vz] := fun j v hv => by
    rw [Nat.zero_add, cell_of_row _ _ _ _ _ _ (heap_alloc_new w _)]
    simpa using hv
  have hld := run_loadVar_mid (P := Tryd.prog) _ _ 0 31 _ _ hR Tryd.underlying31 rfl (by kernel_rfl)
  clear hg hl hR px py pz
  go_enter Tryd.func10, Tryd.ntmps10
  go_wp2_with fail
  refine (H1.out _ HG.out).mono ?_
  rintro e u ⟨rfl, hb⟩
  have HB : Hid (Below w.heap.size w u) := HB0.out.trans (hb.mono HB0.out.size)
  clear hb HB0 HG H1 hld
  go_wp2
  go_ret
  exact ⟨rfl, HB.out⟩
end Go.Proofs.YtifcdmiopanedaaDoor
