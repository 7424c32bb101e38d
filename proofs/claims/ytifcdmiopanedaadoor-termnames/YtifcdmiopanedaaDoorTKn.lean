/-
  Chapter 12's example. No statement of the seat is proved here.
-/
import Derived.Test.YtifcdmiopanedaaDoorTNm
import Derived.Test.YtifcdmiopanedaaDoorTDh
namespace Go.Proofs.YtifcdmiopanedaaDoor
open Go.RowKit
set_option linter.unusedVariables false
set_option linter.unusedSimpArgs false

theorem dh_53 (w : World) : Calls Tryd.prog 8 #[.int .i64 5, .iface 23 (.agg #[.int .i64 3])] w fun e u => e = .returned (.tuple #[.iface 58 (.agg #[.int .i64 3, .int .i64 5]), .bool true]) ∧ Below w.heap.size w u := by
  have h := dh_yes 5 3 w
  have e1 : min (5 : Int) 3 = 3 := by decide
  have e2 : max (5 : Int) 3 = 5 := by decide
  rw [e1, e2] at h
  exact h
theorem sh35 : (⟨(shN 3 5).toArray⟩ : ByteArray) = ⟨#[115, 51, 46, 53]⟩ := by kernel_rfl
set_option maxRecDepth 8000 in
set_option maxHeartbeats 1000000 in
theorem known_c (w : World) (hg : Gt w) : Calls Tryd.prog 9 #[] w fun e u => e = .returned (.bool true) ∧ Below w.heap.size w u := by
  have HD : Hid (∀ w, Calls Tryd.prog 8 #[.int .i64 5, .iface 23 (.agg #[.int .i64 3])] w fun e u => e = .returned (.tuple #[.iface 58 (.agg #[.int .i64 3, .int .i64 5]), .bool true]) ∧ Below w.heap.size w u) := dh_53
  have HM : Hid (∀ w, Gt w → Calls Tryd.prog 64 #[.agg #[.int .i64 3, .int .i64 5]] w fun e u => e = .returned (.string ⟨#[115, 51, 46, 53]⟩) ∧ Below w.heap.size w u) := fun w hw => by have h := name_Shared 3 5 (by omega) (by omega) (by omega) (by omega) (by have h1 := Lib.itoa_length_le 3 (by omega) (by omega); have h2 := Lib.itoa_length_le 5 (by omega) (by omega); unfold shN; simp only [List.length_append, List.length_cons]; omega) w hw; rw [sh35] at h; exact h
  have hm : ∀ w, (method 208 58 (.agg #[.int .i64 3, .int .i64 5]) "Name").run Tryd.prog w = .ok (64, .agg #[.int .i64 3, .int .i64 5]) w := fun _ => by kernel_rfl
  have hs := as_Shared_Shared (.agg #[.int .i64 3, .int .i64 5])
  have HG : Hid (Gt w) := hg
  clear hg
  go_enter Tryd.func9, Tryd.ntmps9
  go_wp2_with fail
  refine (HD.out _).mono ?_
  rintro e u ⟨rfl, hb⟩
  have HB1 : Hid (Below w.heap.size w u) := hb
  have HB2 : Hid (Below w.heap.size w (u.alloc (.cells #[.int .i64 3, .int .i64 5] 58))) := hb.trans ((bel1 u _).mono hb.size)
  have HG2 : Hid (Gt (u.alloc (.cells #[.int .i64 3, .int .i64 5] 58))) := HG.out.later HB2.out
  have k0 : (u.alloc (.cells #[.int .i64 3, .int .i64 5] 58)).cell? ⟨u.heap.size, 0, none⟩ = some (.int .i64 3) := by rw [cell_of_row _ _ _ _ _ _ (heap_alloc_new u _)]; rfl
  have k1 : (u.alloc (.cells #[.int .i64 3, .int .i64 5] 58)).cell? ⟨u.heap.size, 1, none⟩ = some (.int .i64 5) := by rw [cell_of_row _ _ _ _ _ _ (heap_alloc_new u _)]; rfl
  clear hb HD HG
  go_wp2_with fail
  refine (HM.out _ HG2.out).mono ?_
  rintro e u2 ⟨rfl, hb⟩
  have HB3 : Hid (Below w.heap.size w u2) := HB2.out.trans (hb.mono HB2.out.size)
  clear hb HB1 HB2 HM HG2
  go_wp2
  go_ret
  exact ⟨rfl, HB3.out⟩
end Go.Proofs.YtifcdmiopanedaaDoor
