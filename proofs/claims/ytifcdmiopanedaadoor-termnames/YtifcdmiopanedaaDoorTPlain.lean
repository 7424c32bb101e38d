/-
  Terms as values, and what portholehand's Plain makes of them. No statement of the seat is proved here.
-/
import Derived.Test.YtifcdmiopanedaaDoorTRef
import Derived.Test.YtifcdmiopanedaaDoorTAs
namespace Go.Proofs.YtifcdmiopanedaaDoor
open Go.RowKit

set_option maxRecDepth 8000 in
set_option maxHeartbeats 4000000 in
theorem plain_nil (w : World) : Calls Tryd.prog 21 #[.nilIface] w fun e w' => e = .returned (.agg #[.int .i64 0, .int .i64 0, .int .i64 0, .slice none 0 0]) ∧ Below w.heap.size w w' := by
  have fEmpty := as_nil_Empty
  have fAtom := as_nil_Atom
  have fPublic := as_nil_Public
  have fShared := as_nil_Shared
  have fChain := as_nil_Chain
  have fDigest := as_nil_Digest
  have fBox := as_nil_Box
  go_enter Tryd.func21, Tryd.ntmps21
  go_wp2
  have A1 := ar_box w [.int .i64 0, .int .i64 0, .int .i64 0, .slice none 0 0] 4 rfl 52
  have hb := bel1 w (.cells #[.int .i64 0, .int .i64 0, .int .i64 0, .slice none 0 0] 52)
  have hld := run_loadVar_mid (P := Tryd.prog) _ _ 0 52 _ _ A1.rng Tryd.underlying52 rfl (by kernel_rfl)
  exact bodyPost_ret (v := .agg #[.int .i64 0, .int .i64 0, .int .i64 0, .slice none 0 0]) (by simp [results, Tryd.results21]; exact hld) rfl ⟨rfl, hb⟩
set_option maxRecDepth 8000 in
set_option maxHeartbeats 4000000 in
theorem plain_Empty (w : World) : Calls Tryd.prog 21 #[.iface 25 (.agg #[])] w fun e w' => e = .returned (.agg #[.int .i64 1, .int .i64 0, .int .i64 0, .slice none 0 0]) ∧ Below w.heap.size w w' := by
  have fEmpty := as_Empty_Empty (.agg #[])
  go_enter Tryd.func21, Tryd.ntmps21
  go_wp2
  have A1 := (ar_box w [.int .i64 1, .int .i64 0, .int .i64 0, .slice none 0 0] 4 rfl 52).later (bel1 _ (.cells #[] 25))
  have hb := bel2 w (.cells #[.int .i64 1, .int .i64 0, .int .i64 0, .slice none 0 0] 52) (.cells #[] 25)
  have hld := run_loadVar_mid (P := Tryd.prog) _ _ 0 52 _ _ A1.rng Tryd.underlying52 rfl (by kernel_rfl)
  exact bodyPost_ret (v := .agg #[.int .i64 1, .int .i64 0, .int .i64 0, .slice none 0 0]) (by simp [results, Tryd.results21]; exact hld) rfl ⟨rfl, hb⟩
set_option maxRecDepth 8000 in
set_option maxHeartbeats 4000000 in
theorem plain_Atom (n : Int) (w : World) : Calls Tryd.prog 21 #[.iface 27 (.agg #[.int .i64 n])] w fun e w' => e = .returned (.agg #[.int .i64 2, .int .i64 n, .int .i64 0, .slice none 0 0]) ∧ Below w.heap.size w w' := by
  have fEmpty := as_Atom_Empty (.agg #[.int .i64 n])
  have fAtom := as_Atom_Atom (.agg #[.int .i64 n])
  go_enter Tryd.func21, Tryd.ntmps21
  go_wp2
  have A1 := (ar_box w [.int .i64 2, .int .i64 n, .int .i64 0, .slice none 0 0] 4 rfl 52).later (bel1 _ (.cells #[.int .i64 n] 27))
  have hb := bel2 w (.cells #[.int .i64 2, .int .i64 n, .int .i64 0, .slice none 0 0] 52) (.cells #[.int .i64 n] 27)
  have hld := run_loadVar_mid (P := Tryd.prog) _ _ 0 52 _ _ A1.rng Tryd.underlying52 rfl (by kernel_rfl)
  exact bodyPost_ret (v := .agg #[.int .i64 2, .int .i64 n, .int .i64 0, .slice none 0 0]) (by simp [results, Tryd.results21]; exact hld) rfl ⟨rfl, hb⟩
set_option maxRecDepth 8000 in
set_option maxHeartbeats 4000000 in
theorem plain_Public (n : Int) (w : World) : Calls Tryd.prog 21 #[.iface 23 (.agg #[.int .i64 n])] w fun e w' => e = .returned (.agg #[.int .i64 3, .int .i64 n, .int .i64 0, .slice none 0 0]) ∧ Below w.heap.size w w' := by
  have fEmpty := as_Public_Empty (.agg #[.int .i64 n])
  have fAtom := as_Public_Atom (.agg #[.int .i64 n])
  have fPublic := as_Public_Public (.agg #[.int .i64 n])
  go_enter Tryd.func21, Tryd.ntmps21
  go_wp2
  have A1 := (ar_box w [.int .i64 3, .int .i64 n, .int .i64 0, .slice none 0 0] 4 rfl 52).later (bel1 _ (.cells #[.int .i64 n] 23))
  have hb := bel2 w (.cells #[.int .i64 3, .int .i64 n, .int .i64 0, .slice none 0 0] 52) (.cells #[.int .i64 n] 23)
  have hld := run_loadVar_mid (P := Tryd.prog) _ _ 0 52 _ _ A1.rng Tryd.underlying52 rfl (by kernel_rfl)
  exact bodyPost_ret (v := .agg #[.int .i64 3, .int .i64 n, .int .i64 0, .slice none 0 0]) (by simp [results, Tryd.results21]; exact hld) rfl ⟨rfl, hb⟩
set_option maxRecDepth 8000 in
set_option maxHeartbeats 4000000 in
theorem plain_Shared (n m : Int) (w : World) : Calls Tryd.prog 21 #[.iface 58 (.agg #[.int .i64 n, .int .i64 m])] w fun e w' => e = .returned (.agg #[.int .i64 4, .int .i64 n, .int .i64 m, .slice none 0 0]) ∧ Below w.heap.size w w' := by
  have fEmpty := as_Shared_Empty (.agg #[.int .i64 n, .int .i64 m])
  have fAtom := as_Shared_Atom (.agg #[.int .i64 n, .int .i64 m])
  have fPublic := as_Shared_Public (.agg #[.int .i64 n, .int .i64 m])
  have fShared := as_Shared_Shared (.agg #[.int .i64 n, .int .i64 m])
  go_enter Tryd.func21, Tryd.ntmps21
  go_wp2
  have A1 := (ar_box w [.int .i64 4, .int .i64 n, .int .i64 m, .slice none 0 0] 4 rfl 52).later (bel1 _ (.cells #[.int .i64 n, .int .i64 m] 58))
  have hb := bel2 w (.cells #[.int .i64 4, .int .i64 n, .int .i64 m, .slice none 0 0] 52) (.cells #[.int .i64 n, .int .i64 m] 58)
  have hld := run_loadVar_mid (P := Tryd.prog) _ _ 0 52 _ _ A1.rng Tryd.underlying52 rfl (by kernel_rfl)
  exact bodyPost_ret (v := .agg #[.int .i64 4, .int .i64 n, .int .i64 m, .slice none 0 0]) (by simp [results, Tryd.results21]; exact hld) rfl ⟨rfl, hb⟩
end Go.Proofs.YtifcdmiopanedaaDoor
