/-
  What term's Dh, MustBox and the law's panics do. No statement of the seat is proved here.
-/
import Derived.Test.YtifcdmiopanedaaDoorKStr
import Derived.Test.YtifcdmiopanedaaDoorTVal
import Derived.Lib.Hide
import Derived.Defers
import Derived.Recover
import Derived.Laws.Pointers
namespace Go.Proofs.YtifcdmiopanedaaDoor
open Go.RowKit
set_option linter.unusedVariables false
set_option linter.unusedSimpArgs false

set_option maxRecDepth 8000 in
set_option maxHeartbeats 1000000 in
theorem dh_yes (s n : Int) (w : World) : Calls Tryd.prog 8 #[.int .i64 s, .iface 23 (.agg #[.int .i64 n])] w fun e u => e = .returned (.tuple #[.iface 58 (.agg #[.int .i64 (min s n), .int .i64 (max s n)]), .bool true]) ∧ Below w.heap.size w u := by
  have f := as_Public_Public (.agg #[.int .i64 n])
  have hb := bel1 w (.cells #[.int .i64 n] 23)
  have k0 : (w.alloc (.cells #[.int .i64 n] 23)).cell? ⟨w.heap.size, 0, none⟩ = some (.int .i64 n) := by rw [cell_of_row _ _ _ _ _ _ (heap_alloc_new w _)]; rfl
  rcases Int.lt_trichotomy s n with h | h | h
  · have e1 : min s n = s := by omega
    have e2 : max s n = n := by omega
    rw [e1, e2]
    go_enter Tryd.func8, Tryd.ntmps8
    go_wp2
    all_goals first
      | omega
      | (go_ret2; exact ⟨rfl, hb⟩)
  · subst h
    have e1 : min s s = s := by omega
    have e2 : max s s = s := by omega
    rw [e1, e2]
    go_enter Tryd.func8, Tryd.ntmps8
    go_wp2
    all_goals first
      | omega
      | (go_ret2; exact ⟨rfl, hb⟩)
  · have e1 : min s n = n := by omega
    have e2 : max s n = s := by omega
    rw [e1, e2]
    go_enter Tryd.func8, Tryd.ntmps8
    go_wp2
    all_goals first
      | omega
      | (go_ret2; exact ⟨rfl, hb⟩)
set_option maxRecDepth 8000 in
set_option maxHeartbeats 1000000 in
theorem dh_no (s : Int) (v : Value) (hv : ∀ w, Sem.run Tryd.prog (Instr.typeAssert v 29 23 true) w = .ok (.tuple #[.agg #[.int .i64 0], .bool false]) w) (w : World) : Calls Tryd.prog 8 #[.int .i64 s, v] w fun e u => e = .returned (.tuple #[.nilIface, .bool false]) ∧ Below w.heap.size w u := by
  have hb := bel1 w (.cells #[.int .i64 0] 23)
  go_enter Tryd.func8, Tryd.ntmps8
  go_wp2
  go_ret2
  exact ⟨rfl, hb⟩
theorem as_Box_Must (v : Value) (w : World) : Sem.run Tryd.prog (Instr.typeAssert (.iface 31 v) 29 31 false) w = .ok v w := by kernel_rfl
theorem no_Box_Empty (v : Value) (w : World) : Sem.run Tryd.prog (Instr.typeAssert (.iface 25 v) 29 31 false) w = .halt (.panic (.iface 15 (.pointer (some ⟨w.heap.size, 0, none⟩)))) (w.alloc (.cells #[typeHandle Tryd.prog 29, typeHandle Tryd.prog 25, typeHandle Tryd.prog 31, strVal ""] 94)) := by kernel_rfl
theorem no_Box_Atom (v : Value) (w : World) : Sem.run Tryd.prog (Instr.typeAssert (.iface 27 v) 29 31 false) w = .halt (.panic (.iface 15 (.pointer (some ⟨w.heap.size, 0, none⟩)))) (w.alloc (.cells #[typeHandle Tryd.prog 29, typeHandle Tryd.prog 27, typeHandle Tryd.prog 31, strVal ""] 94)) := by kernel_rfl
theorem no_Box_Public (v : Value) (w : World) : Sem.run Tryd.prog (Instr.typeAssert (.iface 23 v) 29 31 false) w = .halt (.panic (.iface 15 (.pointer (some ⟨w.heap.size, 0, none⟩)))) (w.alloc (.cells #[typeHandle Tryd.prog 29, typeHandle Tryd.prog 23, typeHandle Tryd.prog 31, strVal ""] 94)) := by kernel_rfl
theorem no_Box_Shared (v : Value) (w : World) : Sem.run Tryd.prog (Instr.typeAssert (.iface 58 v) 29 31 false) w = .halt (.panic (.iface 15 (.pointer (some ⟨w.heap.size, 0, none⟩)))) (w.alloc (.cells #[typeHandle Tryd.prog 29, typeHandle Tryd.prog 58, typeHandle Tryd.prog 31, strVal ""] 94)) := by kernel_rfl
theorem no_Box_Chain (v : Value) (w : World) : Sem.run Tryd.prog (Instr.typeAssert (.iface 33 v) 29 31 false) w = .halt (.panic (.iface 15 (.pointer (some ⟨w.heap.size, 0, none⟩)))) (w.alloc (.cells #[typeHandle Tryd.prog 29, typeHandle Tryd.prog 33, typeHandle Tryd.prog 31, strVal ""] 94)) := by kernel_rfl
theorem no_Box_Digest (v : Value) (w : World) : Sem.run Tryd.prog (Instr.typeAssert (.iface 39 v) 29 31 false) w = .halt (.panic (.iface 15 (.pointer (some ⟨w.heap.size, 0, none⟩)))) (w.alloc (.cells #[typeHandle Tryd.prog 29, typeHandle Tryd.prog 39, typeHandle Tryd.prog 31, strVal ""] 94)) := by kernel_rfl
theorem no_Box_nil (w : World) : Sem.run Tryd.prog (Instr.typeAssert .nilIface 29 31 false) w = .halt (.panic (.iface 15 (.pointer (some ⟨w.heap.size, 0, none⟩)))) (w.alloc (.cells #[typeHandle Tryd.prog 29, .pointer none, typeHandle Tryd.prog 31, strVal ""] 94)) := by kernel_rfl
set_option maxRecDepth 8000 in
set_option maxHeartbeats 1000000 in
theorem mustbox_no (x : Value) (T E : TypeId) (cs : Array Value) (hx : ∀ w, Sem.run Tryd.prog (Instr.typeAssert x 29 31 false) w = .halt (.panic (.iface T (.pointer (some ⟨w.heap.size, 0, none⟩)))) (w.alloc (.cells cs E))) (w : World) : Calls Tryd.prog 14 #[x] w fun e u => ∃ p, e = .panicked [{ v := .iface T p, recovered := false }] ∧ Below w.heap.size w u := by
  have hb := bel2 w (.cells #[.nilIface, .int .i64 0, .nilIface, .nilIface] 31) (.cells cs E)
  go_enter Tryd.func14, Tryd.ntmps14
  go_wp2
  exact ⟨rfl, _, rfl, hb⟩
set_option maxRecDepth 8000 in
set_option maxHeartbeats 1000000 in
theorem mustbox_yes (n : Int) (tx : TypeId) (vx : Value) (ty : TypeId) (vy : Value) (tz : TypeId) (vz : Value) (w : World) : Calls Tryd.prog 14 #[.iface 31 (.agg #[.iface tx vx, .int .i64 n, .iface ty vy, .iface tz vz])] w fun e u => e = .returned (.agg #[.iface tx vx, .int .i64 n, .iface ty vy, .iface tz vz]) ∧ Below w.heap.size w u := by
  have hx := as_Box_Must (.agg #[.iface tx vx, .int .i64 n, .iface ty vy, .iface tz vz])
  have hb := bel1 w (.cells #[.iface tx vx, .int .i64 n, .iface ty vy, .iface tz vz] 31)
  have hR : (w.alloc (.cells #[.iface tx vx, .int .i64 n, .iface ty vy, .iface tz vz] 31)).rangeAt w.heap.size 0 [.iface tx vx, .int .i64 n, .iface ty vy, .iface tz vz] := fun j v hv => by
    rw [Nat.zero_add, cell_of_row _ _ _ _ _ _ (heap_alloc_new w _)]
    simpa using hv
  have hld := run_loadVar_mid (P := Tryd.prog) _ _ 0 31 _ _ hR Tryd.underlying31 rfl (by kernel_rfl)
  go_enter Tryd.func14, Tryd.ntmps14
  go_wp2
  exact bodyPost_ret (v := .agg #[.iface tx vx, .int .i64 n, .iface ty vy, .iface tz vz]) (by simp [results, Tryd.results14]; exact hld) rfl ⟨rfl, hb⟩
theorem below_setCell_new {w u : World} (h : Below w.heap.size w u) {o : Nat} {x : Value} : Below w.heap.size w (u.setCell ⟨w.heap.size, o, none⟩ x) := Below.setCell h (Nat.le_refl _) _
theorem catch_panicking (p : Addr) (x : Bool) (u : TypeId) (pv : Value) (older : List PanicEntry) (w : World) (hc : w.cell? p = some (.bool x)) (hz : w.frozen? p = false) :
    CallsD Tryd.prog 24 #[.pointer (some p)] (.panicking ({ v := .iface u pv, recovered := false } :: older)) w fun e u' w' =>
      e = .returned (.tuple #[]) ∧ u' = .panicking ({ v := .iface u pv, recovered := true } :: older) ∧ w' = w.setCell p (.bool true) := by
  refine callsD_of_wpS Tryd.func24 rfl fun c₀ cs hu => ?_
  apply wpS_seq
  apply wpS_region
  simp [wpOpsS, go_sem, recoverD, hu, Tryd.ntmps24, Exit.thenS]
  refine wpS_cond (t := true) (by simp [Act.eval, Array.replicate]) ?_
  simp only [if_true]
  apply wpS_region
  simp [wpOpsS, go_sem, hc, hz, bodyPostS, results, Tryd.results24]
theorem catch_idle (p : Addr) (w : World) :
    CallsD Tryd.prog 24 #[.pointer (some p)] .returning w fun e u' w' => e = .returned (.tuple #[]) ∧ u' = .returning ∧ w' = w := by
  refine callsD_of_wpS Tryd.func24 rfl fun c₀ cs hu => ?_
  apply wpS_seq
  apply wpS_region
  simp [wpOpsS, go_sem, recoverD, hu, Tryd.ntmps24, Exit.thenS]
  refine wpS_cond (t := false) (by simp [Act.eval, Array.replicate]) ?_
  simp only [Bool.false_eq_true, if_false]
  refine wpS_of_wp (wp_skip ?_)
  cases c₀
  simp_all [bodyPostS, results, Tryd.results24]
set_option maxRecDepth 8000 in
set_option maxHeartbeats 1000000 in
theorem panics_of (x : Value) (T E : TypeId) (cs : Array Value) (hx : ∀ w, Sem.run Tryd.prog (Instr.typeAssert x 29 31 false) w = .halt (.panic (.iface T (.pointer (some ⟨w.heap.size, 0, none⟩)))) (w.alloc (.cells cs E))) (w : World) : Calls Tryd.prog 16 #[x] w fun e u => e = .returned (.bool true) ∧ Below w.heap.size w u := by
  have hmf : ∀ (fn : Fn) (first cap : Array Value) (w : World), (Instr.makeFunc fn first cap).run Tryd.prog w = .ok (.func fn first cap) w := fun _ _ _ _ => rfl
  have HM : Hid (∀ w, Calls Tryd.prog 14 #[x] w fun e u => ∃ p, e = .panicked [{ v := .iface T p, recovered := false }] ∧ Below w.heap.size w u) := mustbox_no x T E cs hx
  clear hx
  go_enter_defers Tryd.func16, Tryd.ntmps16
  go_wp2_with fail
  refine (HM.out _).mono ?_
  rintro e u ⟨p, rfl, hb⟩
  have hc : u.cell? ⟨w.heap.size, 0, none⟩ = some (.bool false) := by
    rw [World.cell?_of_block (w := w.alloc (.cells #[.bool false] 4)) (hb.block _ (by simp))]
    rw [cell_of_row _ _ _ _ _ _ (heap_alloc_new w _)]; rfl
  have hz : u.frozen? ⟨w.heap.size, 0, none⟩ = false := by
    rw [hb.frozen (p := ⟨w.heap.size, 0, none⟩) (by simp)]
    exact World.frozen?_alloc_new _ _ _ _
  refine leaves_cons (f := 24) (args := #[.pointer (some ⟨w.heap.size, 0, none⟩)]) (by simp) (by simp [go_sem]) ?_
  refine (catch_panicking ⟨w.heap.size, 0, none⟩ false T p [] u hc hz).mono ?_
  rintro e u' w'' ⟨rfl, rfl, rfl⟩
  have hb2 : Below w.heap.size w u := (bel1 w _).trans (hb.mono (bel1 w _).size)
  have hb3 : Below w.heap.size w (u.setCell ⟨w.heap.size, 0, none⟩ (.bool true)) := Below.setCell hb2 (Nat.le_refl _) _
  have hc3 : (u.setCell ⟨w.heap.size, 0, none⟩ (.bool true)).cell? ⟨w.heap.size, 0, none⟩ = some (.bool true) := by rw [World.cell?_setCell_same _ _ _ (by rw [hc])]
  simp [Leaves, settle, results, Tryd.results16, go_sem, hc3]
  exact hb3
set_option maxRecDepth 8000 in
set_option maxHeartbeats 1000000 in
theorem panics_Box (n : Int) (tx : TypeId) (vx : Value) (ty : TypeId) (vy : Value) (tz : TypeId) (vz : Value) (w : World) : Calls Tryd.prog 16 #[.iface 31 (.agg #[.iface tx vx, .int .i64 n, .iface ty vy, .iface tz vz])] w fun e u => e = .returned (.bool false) ∧ Below w.heap.size w u := by
  have hmf : ∀ (fn : Fn) (first cap : Array Value) (w : World), (Instr.makeFunc fn first cap).run Tryd.prog w = .ok (.func fn first cap) w := fun _ _ _ _ => rfl
  have HM : Hid (∀ w, Calls Tryd.prog 14 #[.iface 31 (.agg #[.iface tx vx, .int .i64 n, .iface ty vy, .iface tz vz])] w fun e u => e = .returned (.agg #[.iface tx vx, .int .i64 n, .iface ty vy, .iface tz vz]) ∧ Below w.heap.size w u) := mustbox_yes n tx vx ty vy tz vz
  go_enter_defers Tryd.func16, Tryd.ntmps16
  go_wp2_with fail
  refine (HM.out _).mono ?_
  rintro e u ⟨rfl, hb⟩
  have hc : u.cell? ⟨w.heap.size, 0, none⟩ = some (.bool false) := by
    rw [World.cell?_of_block (w := w.alloc (.cells #[.bool false] 4)) (hb.block _ (by simp))]
    rw [cell_of_row _ _ _ _ _ _ (heap_alloc_new w _)]; rfl
  have hz : u.frozen? ⟨w.heap.size, 0, none⟩ = false := by
    rw [hb.frozen (p := ⟨w.heap.size, 0, none⟩) (by simp)]
    exact World.frozen?_alloc_new _ _ _ _
  have hb2 : Below w.heap.size w u := (bel1 w _).trans (hb.mono (bel1 w _).size)
  have hb3 : Below w.heap.size w (u.setCell ⟨w.heap.size, 0, none⟩ (.bool false)) := Below.setCell hb2 (Nat.le_refl _) _
  have hc3 : (u.setCell ⟨w.heap.size, 0, none⟩ (.bool false)).cell? ⟨w.heap.size, 0, none⟩ = some (.bool false) := by rw [World.cell?_setCell_same _ _ _ (by rw [hc])]
  go_wp2
  refine leaves_cons (f := 24) (args := #[.pointer (some ⟨w.heap.size, 0, none⟩)]) (by simp) (by simp [go_sem]) ?_
  refine (catch_idle ⟨w.heap.size, 0, none⟩ _).mono ?_
  rintro e u' w'' ⟨rfl, rfl, rfl⟩
  simp [Leaves, settle, results, Tryd.results16, go_sem, hc3]
  exact hb3
end Go.Proofs.YtifcdmiopanedaaDoor
