/-
  What curve's square does. No statement of the seat is proved here.
-/
import Derived.Test.YtggjifpcoidipaaDoorCBase
namespace Go.Proofs.YtggjifpcoidipaaDoor
open Go.RowKit

set_option maxHeartbeats 1000000 in
theorem square_e (x : Int) (hx : El x) (w : World) :
    Calls Tryd.prog 51 #[(.agg #[.int .u64 (e0 x), .int .u64 (e1 x), .int .u64 (e2 x), .int .u64 (e3 x)])] w fun e w' => ∃ z, e = .returned (.agg #[.int .u64 (e0 z), .int .u64 (e1 z), .int .u64 (e2 z), .int .u64 (e3 z)]) ∧ El z ∧ Hid (z = x * x % 57896044618658097711785492504343953926634992332820282019728792003956564819949) ∧ Below w.heap.size w w' := by
  go_enter Tryd.func51, Tryd.ntmps51
  go_wp2_with fail
  refine (mul_e x x hx hx _).mono ?_
  rintro e w1 ⟨z, rfl, hz, HZ, hb⟩
  have HB : Hid (Below w.heap.size w w1) := (bel2 _ _ _).trans (hb.mono (by simp; omega))
  have dc0' : w1.cell? ⟨w.heap.size + 1, 0, none⟩ = some (.int .u64 0) := cell_later hb (by simp [go_sem])
  have df0' : w1.frozen? ⟨w.heap.size + 1, 0, none⟩ = false := froz_later hb (by first | omega | (simp <;> omega)) (by simp [go_sem])
  have dc1' : w1.cell? ⟨w.heap.size + 1, 1, none⟩ = some (.int .u64 0) := cell_later hb (by simp [go_sem])
  have df1' : w1.frozen? ⟨w.heap.size + 1, 1, none⟩ = false := froz_later hb (by first | omega | (simp <;> omega)) (by simp [go_sem])
  have dc2' : w1.cell? ⟨w.heap.size + 1, 2, none⟩ = some (.int .u64 0) := cell_later hb (by simp [go_sem])
  have df2' : w1.frozen? ⟨w.heap.size + 1, 2, none⟩ = false := froz_later hb (by first | omega | (simp <;> omega)) (by simp [go_sem])
  have dc3' : w1.cell? ⟨w.heap.size + 1, 3, none⟩ = some (.int .u64 0) := cell_later hb (by simp [go_sem])
  have df3' : w1.frozen? ⟨w.heap.size + 1, 3, none⟩ = false := froz_later hb (by first | omega | (simp <;> omega)) (by simp [go_sem])
  clear hb
  have dc0 := dc0'
  have df0 := df0'
  have dc1 := dc1'
  have df1 := df1'
  have dc2 := dc2'
  have df2 := df2'
  have dc3 := dc3'
  have df3 := df3'
  clear dc0' df0' dc1' df1' dc2' df2' dc3' df3'
  go_wp2
  refine bodyPost_ret (v := (.agg #[.int .u64 (e0 z), .int .u64 (e1 z), .int .u64 (e2 z), .int .u64 (e3 z)])) (by simp [results, Tryd.results51, go_sem, dc0, dc1, dc2, dc3]) rfl ⟨_, rfl, hz, HZ, ?_⟩
  exact ((((HB.out.setCell (by dsimp only; omega) _).setCell (by dsimp only; omega) _).setCell (by dsimp only; omega) _).setCell (by dsimp only; omega) _)
end Go.Proofs.YtggjifpcoidipaaDoor
