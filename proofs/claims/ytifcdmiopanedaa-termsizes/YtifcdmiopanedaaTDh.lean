/-
  What term's Dh, MustBox and the law's panics do. No statement of the seat is proved here.
-/
import Derived.Test.YtifcdmiopanedaaKStr
import Derived.Test.YtifcdmiopanedaaTVal
import Derived.Lib.Hide
import Derived.Defers
import Derived.Recover
import Derived.Laws.Pointers
namespace Go.Proofs.Ytifcdmiopanedaa
open Go.RowKit
set_option linter.unusedVariables false
set_option linter.unusedSimpArgs false

set_option maxRecDepth 8000 in
set_option maxHeartbeats 1000000 in
theorem dh_yes (s n : Int) (w : World) : Calls Try.prog 9 #[.int .i64 s, .iface 47 (.agg #[.int .i64 n])] w fun e u => e = .returned (.tuple #[.iface 49 (.agg #[.int .i64 (min s n), .int .i64 (max s n)]), .bool true]) ∧ Below w.heap.size w u := by
  have f := as_Public_Public (.agg #[.int .i64 n])
  have hb := bel1 w (.cells #[.int .i64 n] 47)
  have k0 : (w.alloc (.cells #[.int .i64 n] 47)).cell? ⟨w.heap.size, 0, none⟩ = some (.int .i64 n) := by rw [cell_of_row _ _ _ _ _ _ (heap_alloc_new w _)]; rfl
  rcases Int.lt_trichotomy s n with h | h | h
  · have e1 : min s n = s := by omega
    have e2 : max s n = n := by omega
    rw [e1, e2]
    go_enter Try.func9, Try.ntmps9
    go_wp2
    all_goals first
      | omega
      | (go_ret2; exact ⟨rfl, hb⟩)
  · subst h
    have e1 : min s s = s := by omega
    have e2 : max s s = s := by omega
    rw [e1, e2]
    go_enter Try.func9, Try.ntmps9
    go_wp2
    all_goals first
      | omega
      | (go_ret2; exact ⟨rfl, hb⟩)
  · have e1 : min s n = n := by omega
    have e2 : max s n = s := by omega
    rw [e1, e2]
    go_enter Try.func9, Try.ntmps9
    go_wp2
    all_goals first
      | omega
      | (go_ret2; exact ⟨rfl, hb⟩)
set_option maxRecDepth 8000 in
set_option maxHeartbeats 1000000 in
theorem dh_no (s : Int) (v : Value) (hv : ∀ w, Sem.run Try.prog (Instr.typeAssert v 26 47 true) w = .ok (.tuple #[.agg #[.int .i64 0], .bool false]) w) (w : World) : Calls Try.prog 9 #[.int .i64 s, v] w fun e u => e = .returned (.tuple #[.nilIface, .bool false]) ∧ Below w.heap.size w u := by
  have hb := bel1 w (.cells #[.int .i64 0] 47)
  go_enter Try.func9, Try.ntmps9
  go_wp2
  go_ret2
  exact ⟨rfl, hb⟩
end Go.Proofs.Ytifcdmiopanedaa
