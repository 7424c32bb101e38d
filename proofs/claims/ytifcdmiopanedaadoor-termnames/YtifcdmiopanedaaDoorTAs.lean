/-
  What type assertions on terms answer. No statement of the seat is proved here.
-/
import Derived.RowKit
import Derived.Test.YtifcdmiopanedaaDoorProg
namespace Go.Proofs.YtifcdmiopanedaaDoor
open Go.RowKit

theorem as_Empty_Empty (v : Value) (w : World) : Sem.run Tryd.prog (Instr.typeAssert (.iface 25 v) 29 25 true) w = .ok (.tuple #[v, .bool true]) w := by kernel_rfl
theorem as_Empty_Atom (v : Value) (w : World) : Sem.run Tryd.prog (Instr.typeAssert (.iface 25 v) 29 27 true) w = .ok (.tuple #[.agg #[.int .i64 0], .bool false]) w := by kernel_rfl
theorem as_Empty_Public (v : Value) (w : World) : Sem.run Tryd.prog (Instr.typeAssert (.iface 25 v) 29 23 true) w = .ok (.tuple #[.agg #[.int .i64 0], .bool false]) w := by kernel_rfl
theorem as_Empty_Shared (v : Value) (w : World) : Sem.run Tryd.prog (Instr.typeAssert (.iface 25 v) 29 58 true) w = .ok (.tuple #[.agg #[.int .i64 0, .int .i64 0], .bool false]) w := by kernel_rfl
theorem as_Empty_Chain (v : Value) (w : World) : Sem.run Tryd.prog (Instr.typeAssert (.iface 25 v) 29 33 true) w = .ok (.tuple #[.agg #[.int .i64 0, .nilIface, .nilIface], .bool false]) w := by kernel_rfl
theorem as_Empty_Digest (v : Value) (w : World) : Sem.run Tryd.prog (Instr.typeAssert (.iface 25 v) 29 39 true) w = .ok (.tuple #[.agg #[.nilIface, .nilIface], .bool false]) w := by kernel_rfl
theorem as_Empty_Box (v : Value) (w : World) : Sem.run Tryd.prog (Instr.typeAssert (.iface 25 v) 29 31 true) w = .ok (.tuple #[.agg #[.nilIface, .int .i64 0, .nilIface, .nilIface], .bool false]) w := by kernel_rfl
theorem as_Atom_Empty (v : Value) (w : World) : Sem.run Tryd.prog (Instr.typeAssert (.iface 27 v) 29 25 true) w = .ok (.tuple #[.agg #[], .bool false]) w := by kernel_rfl
theorem as_Atom_Atom (v : Value) (w : World) : Sem.run Tryd.prog (Instr.typeAssert (.iface 27 v) 29 27 true) w = .ok (.tuple #[v, .bool true]) w := by kernel_rfl
theorem as_Atom_Public (v : Value) (w : World) : Sem.run Tryd.prog (Instr.typeAssert (.iface 27 v) 29 23 true) w = .ok (.tuple #[.agg #[.int .i64 0], .bool false]) w := by kernel_rfl
theorem as_Atom_Shared (v : Value) (w : World) : Sem.run Tryd.prog (Instr.typeAssert (.iface 27 v) 29 58 true) w = .ok (.tuple #[.agg #[.int .i64 0, .int .i64 0], .bool false]) w := by kernel_rfl
theorem as_Atom_Chain (v : Value) (w : World) : Sem.run Tryd.prog (Instr.typeAssert (.iface 27 v) 29 33 true) w = .ok (.tuple #[.agg #[.int .i64 0, .nilIface, .nilIface], .bool false]) w := by kernel_rfl
theorem as_Atom_Digest (v : Value) (w : World) : Sem.run Tryd.prog (Instr.typeAssert (.iface 27 v) 29 39 true) w = .ok (.tuple #[.agg #[.nilIface, .nilIface], .bool false]) w := by kernel_rfl
theorem as_Atom_Box (v : Value) (w : World) : Sem.run Tryd.prog (Instr.typeAssert (.iface 27 v) 29 31 true) w = .ok (.tuple #[.agg #[.nilIface, .int .i64 0, .nilIface, .nilIface], .bool false]) w := by kernel_rfl
theorem as_Public_Empty (v : Value) (w : World) : Sem.run Tryd.prog (Instr.typeAssert (.iface 23 v) 29 25 true) w = .ok (.tuple #[.agg #[], .bool false]) w := by kernel_rfl
theorem as_Public_Atom (v : Value) (w : World) : Sem.run Tryd.prog (Instr.typeAssert (.iface 23 v) 29 27 true) w = .ok (.tuple #[.agg #[.int .i64 0], .bool false]) w := by kernel_rfl
theorem as_Public_Public (v : Value) (w : World) : Sem.run Tryd.prog (Instr.typeAssert (.iface 23 v) 29 23 true) w = .ok (.tuple #[v, .bool true]) w := by kernel_rfl
theorem as_Public_Shared (v : Value) (w : World) : Sem.run Tryd.prog (Instr.typeAssert (.iface 23 v) 29 58 true) w = .ok (.tuple #[.agg #[.int .i64 0, .int .i64 0], .bool false]) w := by kernel_rfl
theorem as_Public_Chain (v : Value) (w : World) : Sem.run Tryd.prog (Instr.typeAssert (.iface 23 v) 29 33 true) w = .ok (.tuple #[.agg #[.int .i64 0, .nilIface, .nilIface], .bool false]) w := by kernel_rfl
theorem as_Public_Digest (v : Value) (w : World) : Sem.run Tryd.prog (Instr.typeAssert (.iface 23 v) 29 39 true) w = .ok (.tuple #[.agg #[.nilIface, .nilIface], .bool false]) w := by kernel_rfl
theorem as_Public_Box (v : Value) (w : World) : Sem.run Tryd.prog (Instr.typeAssert (.iface 23 v) 29 31 true) w = .ok (.tuple #[.agg #[.nilIface, .int .i64 0, .nilIface, .nilIface], .bool false]) w := by kernel_rfl
theorem as_Shared_Empty (v : Value) (w : World) : Sem.run Tryd.prog (Instr.typeAssert (.iface 58 v) 29 25 true) w = .ok (.tuple #[.agg #[], .bool false]) w := by kernel_rfl
theorem as_Shared_Atom (v : Value) (w : World) : Sem.run Tryd.prog (Instr.typeAssert (.iface 58 v) 29 27 true) w = .ok (.tuple #[.agg #[.int .i64 0], .bool false]) w := by kernel_rfl
theorem as_Shared_Public (v : Value) (w : World) : Sem.run Tryd.prog (Instr.typeAssert (.iface 58 v) 29 23 true) w = .ok (.tuple #[.agg #[.int .i64 0], .bool false]) w := by kernel_rfl
theorem as_Shared_Shared (v : Value) (w : World) : Sem.run Tryd.prog (Instr.typeAssert (.iface 58 v) 29 58 true) w = .ok (.tuple #[v, .bool true]) w := by kernel_rfl
theorem as_Shared_Chain (v : Value) (w : World) : Sem.run Tryd.prog (Instr.typeAssert (.iface 58 v) 29 33 true) w = .ok (.tuple #[.agg #[.int .i64 0, .nilIface, .nilIface], .bool false]) w := by kernel_rfl
theorem as_Shared_Digest (v : Value) (w : World) : Sem.run Tryd.prog (Instr.typeAssert (.iface 58 v) 29 39 true) w = .ok (.tuple #[.agg #[.nilIface, .nilIface], .bool false]) w := by kernel_rfl
theorem as_Shared_Box (v : Value) (w : World) : Sem.run Tryd.prog (Instr.typeAssert (.iface 58 v) 29 31 true) w = .ok (.tuple #[.agg #[.nilIface, .int .i64 0, .nilIface, .nilIface], .bool false]) w := by kernel_rfl
theorem as_Chain_Empty (v : Value) (w : World) : Sem.run Tryd.prog (Instr.typeAssert (.iface 33 v) 29 25 true) w = .ok (.tuple #[.agg #[], .bool false]) w := by kernel_rfl
theorem as_Chain_Atom (v : Value) (w : World) : Sem.run Tryd.prog (Instr.typeAssert (.iface 33 v) 29 27 true) w = .ok (.tuple #[.agg #[.int .i64 0], .bool false]) w := by kernel_rfl
theorem as_Chain_Public (v : Value) (w : World) : Sem.run Tryd.prog (Instr.typeAssert (.iface 33 v) 29 23 true) w = .ok (.tuple #[.agg #[.int .i64 0], .bool false]) w := by kernel_rfl
theorem as_Chain_Shared (v : Value) (w : World) : Sem.run Tryd.prog (Instr.typeAssert (.iface 33 v) 29 58 true) w = .ok (.tuple #[.agg #[.int .i64 0, .int .i64 0], .bool false]) w := by kernel_rfl
theorem as_Chain_Chain (v : Value) (w : World) : Sem.run Tryd.prog (Instr.typeAssert (.iface 33 v) 29 33 true) w = .ok (.tuple #[v, .bool true]) w := by kernel_rfl
theorem as_Chain_Digest (v : Value) (w : World) : Sem.run Tryd.prog (Instr.typeAssert (.iface 33 v) 29 39 true) w = .ok (.tuple #[.agg #[.nilIface, .nilIface], .bool false]) w := by kernel_rfl
theorem as_Chain_Box (v : Value) (w : World) : Sem.run Tryd.prog (Instr.typeAssert (.iface 33 v) 29 31 true) w = .ok (.tuple #[.agg #[.nilIface, .int .i64 0, .nilIface, .nilIface], .bool false]) w := by kernel_rfl
theorem as_Digest_Empty (v : Value) (w : World) : Sem.run Tryd.prog (Instr.typeAssert (.iface 39 v) 29 25 true) w = .ok (.tuple #[.agg #[], .bool false]) w := by kernel_rfl
theorem as_Digest_Atom (v : Value) (w : World) : Sem.run Tryd.prog (Instr.typeAssert (.iface 39 v) 29 27 true) w = .ok (.tuple #[.agg #[.int .i64 0], .bool false]) w := by kernel_rfl
theorem as_Digest_Public (v : Value) (w : World) : Sem.run Tryd.prog (Instr.typeAssert (.iface 39 v) 29 23 true) w = .ok (.tuple #[.agg #[.int .i64 0], .bool false]) w := by kernel_rfl
theorem as_Digest_Shared (v : Value) (w : World) : Sem.run Tryd.prog (Instr.typeAssert (.iface 39 v) 29 58 true) w = .ok (.tuple #[.agg #[.int .i64 0, .int .i64 0], .bool false]) w := by kernel_rfl
theorem as_Digest_Chain (v : Value) (w : World) : Sem.run Tryd.prog (Instr.typeAssert (.iface 39 v) 29 33 true) w = .ok (.tuple #[.agg #[.int .i64 0, .nilIface, .nilIface], .bool false]) w := by kernel_rfl
theorem as_Digest_Digest (v : Value) (w : World) : Sem.run Tryd.prog (Instr.typeAssert (.iface 39 v) 29 39 true) w = .ok (.tuple #[v, .bool true]) w := by kernel_rfl
theorem as_Digest_Box (v : Value) (w : World) : Sem.run Tryd.prog (Instr.typeAssert (.iface 39 v) 29 31 true) w = .ok (.tuple #[.agg #[.nilIface, .int .i64 0, .nilIface, .nilIface], .bool false]) w := by kernel_rfl
theorem as_Box_Empty (v : Value) (w : World) : Sem.run Tryd.prog (Instr.typeAssert (.iface 31 v) 29 25 true) w = .ok (.tuple #[.agg #[], .bool false]) w := by kernel_rfl
theorem as_Box_Atom (v : Value) (w : World) : Sem.run Tryd.prog (Instr.typeAssert (.iface 31 v) 29 27 true) w = .ok (.tuple #[.agg #[.int .i64 0], .bool false]) w := by kernel_rfl
theorem as_Box_Public (v : Value) (w : World) : Sem.run Tryd.prog (Instr.typeAssert (.iface 31 v) 29 23 true) w = .ok (.tuple #[.agg #[.int .i64 0], .bool false]) w := by kernel_rfl
theorem as_Box_Shared (v : Value) (w : World) : Sem.run Tryd.prog (Instr.typeAssert (.iface 31 v) 29 58 true) w = .ok (.tuple #[.agg #[.int .i64 0, .int .i64 0], .bool false]) w := by kernel_rfl
theorem as_Box_Chain (v : Value) (w : World) : Sem.run Tryd.prog (Instr.typeAssert (.iface 31 v) 29 33 true) w = .ok (.tuple #[.agg #[.int .i64 0, .nilIface, .nilIface], .bool false]) w := by kernel_rfl
theorem as_Box_Digest (v : Value) (w : World) : Sem.run Tryd.prog (Instr.typeAssert (.iface 31 v) 29 39 true) w = .ok (.tuple #[.agg #[.nilIface, .nilIface], .bool false]) w := by kernel_rfl
theorem as_Box_Box (v : Value) (w : World) : Sem.run Tryd.prog (Instr.typeAssert (.iface 31 v) 29 31 true) w = .ok (.tuple #[v, .bool true]) w := by kernel_rfl
theorem as_nil_Empty (w : World) : Sem.run Tryd.prog (Instr.typeAssert .nilIface 29 25 true) w = .ok (.tuple #[.agg #[], .bool false]) w := by kernel_rfl
theorem as_nil_Atom (w : World) : Sem.run Tryd.prog (Instr.typeAssert .nilIface 29 27 true) w = .ok (.tuple #[.agg #[.int .i64 0], .bool false]) w := by kernel_rfl
theorem as_nil_Public (w : World) : Sem.run Tryd.prog (Instr.typeAssert .nilIface 29 23 true) w = .ok (.tuple #[.agg #[.int .i64 0], .bool false]) w := by kernel_rfl
theorem as_nil_Shared (w : World) : Sem.run Tryd.prog (Instr.typeAssert .nilIface 29 58 true) w = .ok (.tuple #[.agg #[.int .i64 0, .int .i64 0], .bool false]) w := by kernel_rfl
theorem as_nil_Chain (w : World) : Sem.run Tryd.prog (Instr.typeAssert .nilIface 29 33 true) w = .ok (.tuple #[.agg #[.int .i64 0, .nilIface, .nilIface], .bool false]) w := by kernel_rfl
theorem as_nil_Digest (w : World) : Sem.run Tryd.prog (Instr.typeAssert .nilIface 29 39 true) w = .ok (.tuple #[.agg #[.nilIface, .nilIface], .bool false]) w := by kernel_rfl
theorem as_nil_Box (w : World) : Sem.run Tryd.prog (Instr.typeAssert .nilIface 29 31 true) w = .ok (.tuple #[.agg #[.nilIface, .int .i64 0, .nilIface, .nilIface], .bool false]) w := by kernel_rfl
end Go.Proofs.YtifcdmiopanedaaDoor
